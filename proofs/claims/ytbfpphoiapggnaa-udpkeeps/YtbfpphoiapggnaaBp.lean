/-
  Build of udp.
-/
import Derived.Test.YtbfpphoiapggnaaPs
namespace Go.Proofs.Ytbfpphoiapggnaa
open Go.ChangeShapes Go.WideShapes Go.ChangeAt Go.RowKit Num
set_option linter.unusedVariables false
set_option maxHeartbeats 4000000
set_option maxRecDepth 100000

/-- What Build tells. -/
def BuildOut (w : World) (r : List Int × Int) (E : Ending) (w' : World) : Prop :=
  ∃ v, E = .returned (.tuple #[v, .int .i64 r.2]) ∧ Owns w' v r.1 ∧ New w.heap.size v ∧ Away [] w w'
theorem BuildOut.no {w w' : World} (c : Int) (h : Away [] w w') : BuildOut w ([], c) (.returned (.tuple #[.slice none 0 0, .int .i64 c])) w' := ⟨_, rfl, Owns.nil _, New.nil _, h⟩
theorem build_no1 (s t : Ax) (g : Dg) (dv : Value) (w : World) (hs : WfA s) (ht : WfA t) (hg : Dat w g dv) (hz : pairP s t = false) :
    Calls Try.prog 11 #[.agg (csA s.v s.l), .agg (csA t.v t.l), .agg (csD g dv)] w fun E w' => BuildOut w ([], 1) E w' := by
  have K1 : Hid (∀ w, Calls Try.prog 23 #[.agg (csA s.v s.l), .agg (csA t.v t.l)] w fun e w' => e = .returned (.bool false) ∧ Away [] w w') := fun w => by rw [← hz]; exact pair_c s t w hs ht
  have HS := Lib.hid hs
  have HT := Lib.hid ht
  have HG := Lib.hid hg
  clear hs ht hg hz
  go_enter Try.func11, Try.ntmps11
  go_wp2_with (refine wpList_box24 rfl _ rfl s rfl ?_; refine Hid.out ?_)
  refine Lib.hid ?_
  intro g1 w1 hg1 hb haw
  have HA := Lib.hid haw; have HB := Lib.hid hb
  clear hb haw
  go_wp2_with (refine wpList_box24 rfl _ rfl t rfl ?_; refine Hid.out ?_)
  refine Lib.hid ?_
  intro g2 w2 hg2 hb haw
  replace HA := Lib.hid (HA.out.on haw); replace HB := Lib.hid (HB.out.on haw); have HC := Lib.hid hb
  clear hb haw
  go_wp2_with (refine wpList_boxD rfl _ rfl g dv rfl ?_; refine Hid.out ?_)
  refine Lib.hid ?_
  intro g3 w3 hg3 hb haw
  replace HA := Lib.hid (HA.out.on haw); replace HB := Lib.hid (HB.out.on haw); replace HC := Lib.hid (HC.out.on haw); have HD := Lib.hid hb
  clear hb haw
  go_wp2_with (first | (refine wpList_loadX rfl _ rfl g1 rfl s (by exact HB.out) HS.out ?_) | (refine wpList_loadX rfl _ rfl g2 rfl t (by exact HC.out) HT.out ?_))
  refine (K1.out _).mono ?_
  rintro E w4 ⟨rfl, haw⟩
  replace HA := Lib.hid (HA.out.on haw); replace HB := Lib.hid (HB.out.on haw); replace HC := Lib.hid (HC.out.on haw); replace HD := Lib.hid (HD.out.on haw)
  have hl1 := HB.out.lt; have hl2 := HC.out.lt; have hl3 := HD.out.lt
  clear haw K1
  have c0 := HD.out.c0; have c1 := HD.out.c1; have c2 := HD.out.c2; have c3 := HD.out.c3; have cv := HB.out.cell
  go_wp2_with fail
  go_ret2
  exact BuildOut.no 1 HA.out
theorem build_no2 (s t : Ax) (g : Dg) (dv : Value) (w : World) (hs : WfA s) (ht : WfA t) (hg : Dat w g dv) (hz : pairP s t = true) (h2 : wordP g.sp = false) :
    Calls Try.prog 11 #[.agg (csA s.v s.l), .agg (csA t.v t.l), .agg (csD g dv)] w fun E w' => BuildOut w ([], 1) E w' := by
  have K1 : Hid (∀ w, Calls Try.prog 23 #[.agg (csA s.v s.l), .agg (csA t.v t.l)] w fun e w' => e = .returned (.bool true) ∧ Away [] w w') := fun w => by rw [← hz]; exact pair_c s t w hs ht
  have HS := Lib.hid hs
  have HT := Lib.hid ht
  have HG := Lib.hid hg
  have K2 : Hid (∀ w, Calls Try.prog 30 #[.int .i64 g.sp] w fun e w' => e = .returned (.bool false) ∧ w' = w) := fun w => by rw [← h2]; exact word_c g.sp w
  clear h2
  clear hs ht hg hz
  go_enter Try.func11, Try.ntmps11
  go_wp2_with (refine wpList_box24 rfl _ rfl s rfl ?_; refine Hid.out ?_)
  refine Lib.hid ?_
  intro g1 w1 hg1 hb haw
  have HA := Lib.hid haw; have HB := Lib.hid hb
  clear hb haw
  go_wp2_with (refine wpList_box24 rfl _ rfl t rfl ?_; refine Hid.out ?_)
  refine Lib.hid ?_
  intro g2 w2 hg2 hb haw
  replace HA := Lib.hid (HA.out.on haw); replace HB := Lib.hid (HB.out.on haw); have HC := Lib.hid hb
  clear hb haw
  go_wp2_with (refine wpList_boxD rfl _ rfl g dv rfl ?_; refine Hid.out ?_)
  refine Lib.hid ?_
  intro g3 w3 hg3 hb haw
  replace HA := Lib.hid (HA.out.on haw); replace HB := Lib.hid (HB.out.on haw); replace HC := Lib.hid (HC.out.on haw); have HD := Lib.hid hb
  clear hb haw
  go_wp2_with (first | (refine wpList_loadX rfl _ rfl g1 rfl s (by exact HB.out) HS.out ?_) | (refine wpList_loadX rfl _ rfl g2 rfl t (by exact HC.out) HT.out ?_))
  refine (K1.out _).mono ?_
  rintro E w4 ⟨rfl, haw⟩
  replace HA := Lib.hid (HA.out.on haw); replace HB := Lib.hid (HB.out.on haw); replace HC := Lib.hid (HC.out.on haw); replace HD := Lib.hid (HD.out.on haw)
  have hl1 := HB.out.lt; have hl2 := HC.out.lt; have hl3 := HD.out.lt
  clear haw K1
  have c0 := HD.out.c0; have c1 := HD.out.c1; have c2 := HD.out.c2; have c3 := HD.out.c3; have cv := HB.out.cell
  go_wp2_with fail
  refine (K2.out _).mono ?_
  rintro E w4 ⟨rfl, rfl⟩
  clear K2
  go_wp2_with fail
  go_ret2
  exact BuildOut.no 1 HA.out
theorem build_no3 (s t : Ax) (g : Dg) (dv : Value) (w : World) (hs : WfA s) (ht : WfA t) (hg : Dat w g dv) (hz : pairP s t = true) (h2 : wordP g.sp = true) (h3 : wordP g.dp = false) :
    Calls Try.prog 11 #[.agg (csA s.v s.l), .agg (csA t.v t.l), .agg (csD g dv)] w fun E w' => BuildOut w ([], 1) E w' := by
  have K1 : Hid (∀ w, Calls Try.prog 23 #[.agg (csA s.v s.l), .agg (csA t.v t.l)] w fun e w' => e = .returned (.bool true) ∧ Away [] w w') := fun w => by rw [← hz]; exact pair_c s t w hs ht
  have HS := Lib.hid hs
  have HT := Lib.hid ht
  have HG := Lib.hid hg
  have K2 : Hid (∀ w, Calls Try.prog 30 #[.int .i64 g.sp] w fun e w' => e = .returned (.bool true) ∧ w' = w) := fun w => by rw [← h2]; exact word_c g.sp w
  have K3 : Hid (∀ w, Calls Try.prog 30 #[.int .i64 g.dp] w fun e w' => e = .returned (.bool false) ∧ w' = w) := fun w => by rw [← h3]; exact word_c g.dp w
  clear h2 h3
  clear hs ht hg hz
  go_enter Try.func11, Try.ntmps11
  go_wp2_with (refine wpList_box24 rfl _ rfl s rfl ?_; refine Hid.out ?_)
  refine Lib.hid ?_
  intro g1 w1 hg1 hb haw
  have HA := Lib.hid haw; have HB := Lib.hid hb
  clear hb haw
  go_wp2_with (refine wpList_box24 rfl _ rfl t rfl ?_; refine Hid.out ?_)
  refine Lib.hid ?_
  intro g2 w2 hg2 hb haw
  replace HA := Lib.hid (HA.out.on haw); replace HB := Lib.hid (HB.out.on haw); have HC := Lib.hid hb
  clear hb haw
  go_wp2_with (refine wpList_boxD rfl _ rfl g dv rfl ?_; refine Hid.out ?_)
  refine Lib.hid ?_
  intro g3 w3 hg3 hb haw
  replace HA := Lib.hid (HA.out.on haw); replace HB := Lib.hid (HB.out.on haw); replace HC := Lib.hid (HC.out.on haw); have HD := Lib.hid hb
  clear hb haw
  go_wp2_with (first | (refine wpList_loadX rfl _ rfl g1 rfl s (by exact HB.out) HS.out ?_) | (refine wpList_loadX rfl _ rfl g2 rfl t (by exact HC.out) HT.out ?_))
  refine (K1.out _).mono ?_
  rintro E w4 ⟨rfl, haw⟩
  replace HA := Lib.hid (HA.out.on haw); replace HB := Lib.hid (HB.out.on haw); replace HC := Lib.hid (HC.out.on haw); replace HD := Lib.hid (HD.out.on haw)
  have hl1 := HB.out.lt; have hl2 := HC.out.lt; have hl3 := HD.out.lt
  clear haw K1
  have c0 := HD.out.c0; have c1 := HD.out.c1; have c2 := HD.out.c2; have c3 := HD.out.c3; have cv := HB.out.cell
  go_wp2_with fail
  refine (K2.out _).mono ?_
  rintro E w4 ⟨rfl, rfl⟩
  clear K2
  go_wp2_with fail
  refine (K3.out _).mono ?_
  rintro E w4 ⟨rfl, rfl⟩
  clear K3
  go_wp2_with fail
  go_ret2
  exact BuildOut.no 1 HA.out
theorem build_no4 (s t : Ax) (g : Dg) (dv : Value) (w : World) (hs : WfA s) (ht : WfA t) (hg : Dat w g dv) (hz : pairP s t = true) (h2 : wordP g.sp = true) (h3 : wordP g.dp = true) (h4 : g.ns = true) (h6 : s.v = 6) :
    Calls Try.prog 11 #[.agg (csA s.v s.l), .agg (csA t.v t.l), .agg (csD g dv)] w fun E w' => BuildOut w ([], 1) E w' := by
  have K1 : Hid (∀ w, Calls Try.prog 23 #[.agg (csA s.v s.l), .agg (csA t.v t.l)] w fun e w' => e = .returned (.bool true) ∧ Away [] w w') := fun w => by rw [← hz]; exact pair_c s t w hs ht
  have HS := Lib.hid hs
  have HT := Lib.hid ht
  have HG := Lib.hid hg
  have K2 : Hid (∀ w, Calls Try.prog 30 #[.int .i64 g.sp] w fun e w' => e = .returned (.bool true) ∧ w' = w) := fun w => by rw [← h2]; exact word_c g.sp w
  have K3 : Hid (∀ w, Calls Try.prog 30 #[.int .i64 g.dp] w fun e w' => e = .returned (.bool true) ∧ w' = w) := fun w => by rw [← h3]; exact word_c g.dp w
  have H4 := Lib.hid h4; have H6 := Lib.hid h6
  clear h2 h3 h4 h6
  clear hs ht hg hz
  go_enter Try.func11, Try.ntmps11
  go_wp2_with (refine wpList_box24 rfl _ rfl s rfl ?_; refine Hid.out ?_)
  refine Lib.hid ?_
  intro g1 w1 hg1 hb haw
  have HA := Lib.hid haw; have HB := Lib.hid hb
  clear hb haw
  go_wp2_with (refine wpList_box24 rfl _ rfl t rfl ?_; refine Hid.out ?_)
  refine Lib.hid ?_
  intro g2 w2 hg2 hb haw
  replace HA := Lib.hid (HA.out.on haw); replace HB := Lib.hid (HB.out.on haw); have HC := Lib.hid hb
  clear hb haw
  go_wp2_with (refine wpList_boxD rfl _ rfl g dv rfl ?_; refine Hid.out ?_)
  refine Lib.hid ?_
  intro g3 w3 hg3 hb haw
  replace HA := Lib.hid (HA.out.on haw); replace HB := Lib.hid (HB.out.on haw); replace HC := Lib.hid (HC.out.on haw); have HD := Lib.hid hb
  clear hb haw
  go_wp2_with (first | (refine wpList_loadX rfl _ rfl g1 rfl s (by exact HB.out) HS.out ?_) | (refine wpList_loadX rfl _ rfl g2 rfl t (by exact HC.out) HT.out ?_))
  refine (K1.out _).mono ?_
  rintro E w4 ⟨rfl, haw⟩
  replace HA := Lib.hid (HA.out.on haw); replace HB := Lib.hid (HB.out.on haw); replace HC := Lib.hid (HC.out.on haw); replace HD := Lib.hid (HD.out.on haw)
  have hl1 := HB.out.lt; have hl2 := HC.out.lt; have hl3 := HD.out.lt
  clear haw K1
  have c0 := HD.out.c0; have c1 := HD.out.c1; have c2 := HD.out.c2; have c3 := HD.out.c3; have cv := HB.out.cell
  go_wp2_with fail
  refine (K2.out _).mono ?_
  rintro E w4 ⟨rfl, rfl⟩
  clear K2
  go_wp2_with fail
  refine (K3.out _).mono ?_
  rintro E w4 ⟨rfl, rfl⟩
  clear K3
  rw [H4.out] at c2
  rw [H6.out] at cv
  go_wp2_with fail
  go_ret2
  exact BuildOut.no 1 HA.out
theorem build_long_true (s t : Ax) (g : Dg) (dv : Value) (w : World) (hs : WfA s) (ht : WfA t) (hg : Dat w g dv) (hz : pairP s t = true) (h2 : wordP g.sp = true) (h3 : wordP g.dp = true) (h4 : g.ns = true → s.v ≠ 6) (hns : g.ns = true) (hr : roomP s.v < g.d.length) :
    Calls Try.prog 11 #[.agg (csA s.v s.l), .agg (csA t.v t.l), .agg (csD g dv)] w fun E w' => BuildOut w ([], 3) E w' := by
  have K1 : Hid (∀ w, Calls Try.prog 23 #[.agg (csA s.v s.l), .agg (csA t.v t.l)] w fun e w' => e = .returned (.bool true) ∧ Away [] w w') := fun w => by rw [← hz]; exact pair_c s t w hs ht
  have HS := Lib.hid hs
  have HT := Lib.hid ht
  have HG := Lib.hid hg
  have K2 : Hid (∀ w, Calls Try.prog 30 #[.int .i64 g.sp] w fun e w' => e = .returned (.bool true) ∧ w' = w) := fun w => by rw [← h2]; exact word_c g.sp w
  have K3 : Hid (∀ w, Calls Try.prog 30 #[.int .i64 g.dp] w fun e w' => e = .returned (.bool true) ∧ w' = w) := fun w => by rw [← h3]; exact word_c g.dp w
  obtain ⟨sp0, sp1⟩ := word_iff.1 h2
  obtain ⟨dp0, dp1⟩ := word_iff.1 h3
  have h46 := h4
  clear h4
  clear h2 h3
  clear hs ht hg hz
  go_enter Try.func11, Try.ntmps11
  go_wp2_with (refine wpList_box24 rfl _ rfl s rfl ?_; refine Hid.out ?_)
  refine Lib.hid ?_
  intro g1 w1 hg1 hb haw
  have HA := Lib.hid haw; have HB := Lib.hid hb
  clear hb haw
  go_wp2_with (refine wpList_box24 rfl _ rfl t rfl ?_; refine Hid.out ?_)
  refine Lib.hid ?_
  intro g2 w2 hg2 hb haw
  replace HA := Lib.hid (HA.out.on haw); replace HB := Lib.hid (HB.out.on haw); have HC := Lib.hid hb
  clear hb haw
  go_wp2_with (refine wpList_boxD rfl _ rfl g dv rfl ?_; refine Hid.out ?_)
  refine Lib.hid ?_
  intro g3 w3 hg3 hb haw
  replace HA := Lib.hid (HA.out.on haw); replace HB := Lib.hid (HB.out.on haw); replace HC := Lib.hid (HC.out.on haw); have HD := Lib.hid hb
  clear hb haw
  go_wp2_with (first | (refine wpList_loadX rfl _ rfl g1 rfl s (by exact HB.out) HS.out ?_) | (refine wpList_loadX rfl _ rfl g2 rfl t (by exact HC.out) HT.out ?_))
  refine (K1.out _).mono ?_
  rintro E w4 ⟨rfl, haw⟩
  replace HA := Lib.hid (HA.out.on haw); replace HB := Lib.hid (HB.out.on haw); replace HC := Lib.hid (HC.out.on haw); replace HD := Lib.hid (HD.out.on haw)
  have hl1 := HB.out.lt; have hl2 := HC.out.lt; have hl3 := HD.out.lt
  clear haw K1
  have c0 := HD.out.c0; have c1 := HD.out.c1; have c2 := HD.out.c2; have c3 := HD.out.c3; have cv := HB.out.cell
  go_wp2_with fail
  refine (K2.out _).mono ?_
  rintro E w4 ⟨rfl, rfl⟩
  clear K2
  go_wp2_with fail
  refine (K3.out _).mono ?_
  rintro E w4 ⟨rfl, rfl⟩
  clear K3
  rw [hns] at c2
  have cv6 : (s.v == 6) = false := by simpa using h46 hns
  obtain ⟨da, dcap, hdv, hdc⟩ : ∃ a c, dv = .slice a g.d.length c ∧ g.d.length ≤ c := by obtain ⟨a, c, h, h2, _⟩ := HG.out.d; exact ⟨a, c, h, h2⟩
  subst hdv
  go_upto_region 3 with fail
  have HCL : Hid (Away [] w w4.drew ∧ BoxX w4.drew g1 s ∧ BoxX w4.drew g2 t ∧ BoxD w4.drew g3 g (.slice da g.d.length dcap)) := ⟨HA.out.drew, HB.out, HC.out, HD.out⟩
  have KR : Hid (∀ W, (Away [] w W ∧ BoxX W g1 s ∧ BoxX W g2 t ∧ BoxD W g3 g (.slice da g.d.length dcap)) → Calls Try.prog 24 #[.agg (csA s.v s.l)] W fun e w' => e = .returned (.int .i64 (roomP s.v)) ∧ (Away [] w w' ∧ BoxX w' g1 s ∧ BoxX w' g2 t ∧ BoxD w' g3 g (.slice da g.d.length dcap))) :=
    fun W h => (room_c s W).mono fun e w' k => ⟨k.1, h.1.on k.2, h.2.1.on k.2, h.2.2.1.on k.2, h.2.2.2.on k.2⟩
  refine wp_region_cls (C := fun w' => Away [] w w' ∧ BoxX w' g1 s ∧ BoxX w' g2 t ∧ BoxD w' g3 g (.slice da g.d.length dcap)) (by kernel_rfl) (by kernel_rfl) HCL.out ?_
  go_big_quiet_want; (refine quiet_val ?_ ?_ ?_; rotate_left; (intro w; go_simp; rfl); go_simp; go_big_quiet_on)
  go_big_quiet_want; refine quiet_ld _ rfl (ad := ⟨g3, 3, none⟩) rfl (fun w' h => ldB h.2.2.2.c3) ?_; go_simp; go_big_quiet_on
  go_big_quiet_want; (refine quiet_val ?_ ?_ ?_; rotate_left; (intro w; go_simp; rfl); go_simp; go_big_quiet_on)
  go_big_quiet_want; refine quiet_ld _ rfl (ad := ⟨g1, 0, none⟩) rfl (fun w' h => load24_run h.2.1 HS.out) ?_; go_simp; go_big_quiet_on
  go_big_quiet_want; refine quiet_call 24 #[.agg (csA s.v s.l)] (.int .i64 (roomP s.v)) ?_ KR.out ?_
  · intro w; go_simp; done
  go_simp; go_big_quiet_on
  go_big_quiet_want; (refine quiet_val ?_ ?_ ?_; rotate_left; (intro w; go_simp; rfl); go_simp; go_big_quiet_on)
  refine wpQuiet_nil ?_
  intro V hV
  replace HA := Lib.hid hV.1; replace HB := Lib.hid hV.2.1; replace HC := Lib.hid hV.2.2.1; replace HD := Lib.hid hV.2.2.2
  clear hV KR HCL c0 c1 c2 c3 cv hl1 hl2 hl3
  have hl1 := HB.out.lt; have hl2 := HC.out.lt; have hl3 := HD.out.lt
  have c0 := HD.out.c0; have c1 := HD.out.c1; have c2 := HD.out.c2; have c3 := HD.out.c3; have cv := HB.out.cell
  obtain ⟨rm0, rm1⟩ := room_bd s.v
  generalize roomP s.v = rm at *
  go_wp2_with fail
  go_ret2
  exact BuildOut.no 3 HA.out
theorem build_long_false (s t : Ax) (g : Dg) (dv : Value) (w : World) (hs : WfA s) (ht : WfA t) (hg : Dat w g dv) (hz : pairP s t = true) (h2 : wordP g.sp = true) (h3 : wordP g.dp = true) (h4 : g.ns = true → s.v ≠ 6) (hns : g.ns = false) (hr : roomP s.v < g.d.length) :
    Calls Try.prog 11 #[.agg (csA s.v s.l), .agg (csA t.v t.l), .agg (csD g dv)] w fun E w' => BuildOut w ([], 3) E w' := by
  have K1 : Hid (∀ w, Calls Try.prog 23 #[.agg (csA s.v s.l), .agg (csA t.v t.l)] w fun e w' => e = .returned (.bool true) ∧ Away [] w w') := fun w => by rw [← hz]; exact pair_c s t w hs ht
  have HS := Lib.hid hs
  have HT := Lib.hid ht
  have HG := Lib.hid hg
  have K2 : Hid (∀ w, Calls Try.prog 30 #[.int .i64 g.sp] w fun e w' => e = .returned (.bool true) ∧ w' = w) := fun w => by rw [← h2]; exact word_c g.sp w
  have K3 : Hid (∀ w, Calls Try.prog 30 #[.int .i64 g.dp] w fun e w' => e = .returned (.bool true) ∧ w' = w) := fun w => by rw [← h3]; exact word_c g.dp w
  obtain ⟨sp0, sp1⟩ := word_iff.1 h2
  obtain ⟨dp0, dp1⟩ := word_iff.1 h3
  have h46 := h4
  clear h4
  clear h2 h3
  clear hs ht hg hz
  go_enter Try.func11, Try.ntmps11
  go_wp2_with (refine wpList_box24 rfl _ rfl s rfl ?_; refine Hid.out ?_)
  refine Lib.hid ?_
  intro g1 w1 hg1 hb haw
  have HA := Lib.hid haw; have HB := Lib.hid hb
  clear hb haw
  go_wp2_with (refine wpList_box24 rfl _ rfl t rfl ?_; refine Hid.out ?_)
  refine Lib.hid ?_
  intro g2 w2 hg2 hb haw
  replace HA := Lib.hid (HA.out.on haw); replace HB := Lib.hid (HB.out.on haw); have HC := Lib.hid hb
  clear hb haw
  go_wp2_with (refine wpList_boxD rfl _ rfl g dv rfl ?_; refine Hid.out ?_)
  refine Lib.hid ?_
  intro g3 w3 hg3 hb haw
  replace HA := Lib.hid (HA.out.on haw); replace HB := Lib.hid (HB.out.on haw); replace HC := Lib.hid (HC.out.on haw); have HD := Lib.hid hb
  clear hb haw
  go_wp2_with (first | (refine wpList_loadX rfl _ rfl g1 rfl s (by exact HB.out) HS.out ?_) | (refine wpList_loadX rfl _ rfl g2 rfl t (by exact HC.out) HT.out ?_))
  refine (K1.out _).mono ?_
  rintro E w4 ⟨rfl, haw⟩
  replace HA := Lib.hid (HA.out.on haw); replace HB := Lib.hid (HB.out.on haw); replace HC := Lib.hid (HC.out.on haw); replace HD := Lib.hid (HD.out.on haw)
  have hl1 := HB.out.lt; have hl2 := HC.out.lt; have hl3 := HD.out.lt
  clear haw K1
  have c0 := HD.out.c0; have c1 := HD.out.c1; have c2 := HD.out.c2; have c3 := HD.out.c3; have cv := HB.out.cell
  go_wp2_with fail
  refine (K2.out _).mono ?_
  rintro E w4 ⟨rfl, rfl⟩
  clear K2
  go_wp2_with fail
  refine (K3.out _).mono ?_
  rintro E w4 ⟨rfl, rfl⟩
  clear K3
  rw [hns] at c2
  obtain ⟨da, dcap, hdv, hdc⟩ : ∃ a c, dv = .slice a g.d.length c ∧ g.d.length ≤ c := by obtain ⟨a, c, h, h2, _⟩ := HG.out.d; exact ⟨a, c, h, h2⟩
  subst hdv
  go_upto_region 3 with fail
  have HCL : Hid (Away [] w w4.drew ∧ BoxX w4.drew g1 s ∧ BoxX w4.drew g2 t ∧ BoxD w4.drew g3 g (.slice da g.d.length dcap)) := ⟨HA.out.drew, HB.out, HC.out, HD.out⟩
  have KR : Hid (∀ W, (Away [] w W ∧ BoxX W g1 s ∧ BoxX W g2 t ∧ BoxD W g3 g (.slice da g.d.length dcap)) → Calls Try.prog 24 #[.agg (csA s.v s.l)] W fun e w' => e = .returned (.int .i64 (roomP s.v)) ∧ (Away [] w w' ∧ BoxX w' g1 s ∧ BoxX w' g2 t ∧ BoxD w' g3 g (.slice da g.d.length dcap))) :=
    fun W h => (room_c s W).mono fun e w' k => ⟨k.1, h.1.on k.2, h.2.1.on k.2, h.2.2.1.on k.2, h.2.2.2.on k.2⟩
  refine wp_region_cls (C := fun w' => Away [] w w' ∧ BoxX w' g1 s ∧ BoxX w' g2 t ∧ BoxD w' g3 g (.slice da g.d.length dcap)) (by kernel_rfl) (by kernel_rfl) HCL.out ?_
  go_big_quiet_want; (refine quiet_val ?_ ?_ ?_; rotate_left; (intro w; go_simp; rfl); go_simp; go_big_quiet_on)
  go_big_quiet_want; refine quiet_ld _ rfl (ad := ⟨g3, 3, none⟩) rfl (fun w' h => ldB h.2.2.2.c3) ?_; go_simp; go_big_quiet_on
  go_big_quiet_want; (refine quiet_val ?_ ?_ ?_; rotate_left; (intro w; go_simp; rfl); go_simp; go_big_quiet_on)
  go_big_quiet_want; refine quiet_ld _ rfl (ad := ⟨g1, 0, none⟩) rfl (fun w' h => load24_run h.2.1 HS.out) ?_; go_simp; go_big_quiet_on
  go_big_quiet_want; refine quiet_call 24 #[.agg (csA s.v s.l)] (.int .i64 (roomP s.v)) ?_ KR.out ?_
  · intro w; go_simp; done
  go_simp; go_big_quiet_on
  go_big_quiet_want; (refine quiet_val ?_ ?_ ?_; rotate_left; (intro w; go_simp; rfl); go_simp; go_big_quiet_on)
  refine wpQuiet_nil ?_
  intro V hV
  replace HA := Lib.hid hV.1; replace HB := Lib.hid hV.2.1; replace HC := Lib.hid hV.2.2.1; replace HD := Lib.hid hV.2.2.2
  clear hV KR HCL c0 c1 c2 c3 cv hl1 hl2 hl3
  have hl1 := HB.out.lt; have hl2 := HC.out.lt; have hl3 := HD.out.lt
  have c0 := HD.out.c0; have c1 := HD.out.c1; have c2 := HD.out.c2; have c3 := HD.out.c3; have cv := HB.out.cell
  obtain ⟨rm0, rm1⟩ := room_bd s.v
  generalize roomP s.v = rm at *
  go_wp2_with fail
  go_ret2
  exact BuildOut.no 3 HA.out
theorem build_yes_true (s t : Ax) (g : Dg) (dv : Value) (w : World) (hs : WfA s) (ht : WfA t) (hg : Dat w g dv) (hz : pairP s t = true) (h2 : wordP g.sp = true) (h3 : wordP g.dp = true) (h4 : g.ns = true → s.v ≠ 6) (hns : g.ns = true) (hr : (g.d.length : Int) ≤ roomP s.v) :
    Calls Try.prog 11 #[.agg (csA s.v s.l), .agg (csA t.v t.l), .agg (csD g dv)] w fun E w' => BuildOut w (outP s t g, 0) E w' := by
  have K1 : Hid (∀ w, Calls Try.prog 23 #[.agg (csA s.v s.l), .agg (csA t.v t.l)] w fun e w' => e = .returned (.bool true) ∧ Away [] w w') := fun w => by rw [← hz]; exact pair_c s t w hs ht
  have HS := Lib.hid hs
  have HT := Lib.hid ht
  have HG := Lib.hid hg
  have K2 : Hid (∀ w, Calls Try.prog 30 #[.int .i64 g.sp] w fun e w' => e = .returned (.bool true) ∧ w' = w) := fun w => by rw [← h2]; exact word_c g.sp w
  have K3 : Hid (∀ w, Calls Try.prog 30 #[.int .i64 g.dp] w fun e w' => e = .returned (.bool true) ∧ w' = w) := fun w => by rw [← h3]; exact word_c g.dp w
  obtain ⟨sp0, sp1⟩ := word_iff.1 h2
  obtain ⟨dp0, dp1⟩ := word_iff.1 h3
  have h46 := h4
  clear h4
  clear h2 h3
  clear hs ht hg hz
  go_enter Try.func11, Try.ntmps11
  go_wp2_with (refine wpList_box24 rfl _ rfl s rfl ?_; refine Hid.out ?_)
  refine Lib.hid ?_
  intro g1 w1 hg1 hb haw
  have HA := Lib.hid haw; have HB := Lib.hid hb
  clear hb haw
  go_wp2_with (refine wpList_box24 rfl _ rfl t rfl ?_; refine Hid.out ?_)
  refine Lib.hid ?_
  intro g2 w2 hg2 hb haw
  replace HA := Lib.hid (HA.out.on haw); replace HB := Lib.hid (HB.out.on haw); have HC := Lib.hid hb
  clear hb haw
  go_wp2_with (refine wpList_boxD rfl _ rfl g dv rfl ?_; refine Hid.out ?_)
  refine Lib.hid ?_
  intro g3 w3 hg3 hb haw
  replace HA := Lib.hid (HA.out.on haw); replace HB := Lib.hid (HB.out.on haw); replace HC := Lib.hid (HC.out.on haw); have HD := Lib.hid hb
  clear hb haw
  go_wp2_with (first | (refine wpList_loadX rfl _ rfl g1 rfl s (by exact HB.out) HS.out ?_) | (refine wpList_loadX rfl _ rfl g2 rfl t (by exact HC.out) HT.out ?_))
  refine (K1.out _).mono ?_
  rintro E w4 ⟨rfl, haw⟩
  replace HA := Lib.hid (HA.out.on haw); replace HB := Lib.hid (HB.out.on haw); replace HC := Lib.hid (HC.out.on haw); replace HD := Lib.hid (HD.out.on haw)
  have hl1 := HB.out.lt; have hl2 := HC.out.lt; have hl3 := HD.out.lt
  clear haw K1
  have c0 := HD.out.c0; have c1 := HD.out.c1; have c2 := HD.out.c2; have c3 := HD.out.c3; have cv := HB.out.cell
  go_wp2_with fail
  refine (K2.out _).mono ?_
  rintro E w4 ⟨rfl, rfl⟩
  clear K2
  go_wp2_with fail
  refine (K3.out _).mono ?_
  rintro E w4 ⟨rfl, rfl⟩
  clear K3
  rw [hns] at c2
  have cv6 : (s.v == 6) = false := by simpa using h46 hns
  obtain ⟨da, dcap, hdv, hdc⟩ : ∃ a c, dv = .slice a g.d.length c ∧ g.d.length ≤ c := by obtain ⟨a, c, h, h2, _⟩ := HG.out.d; exact ⟨a, c, h, h2⟩
  subst hdv
  go_upto_region 3 with fail
  have HCL : Hid (Away [] w w4.drew ∧ BoxX w4.drew g1 s ∧ BoxX w4.drew g2 t ∧ BoxD w4.drew g3 g (.slice da g.d.length dcap)) := ⟨HA.out.drew, HB.out, HC.out, HD.out⟩
  have KR : Hid (∀ W, (Away [] w W ∧ BoxX W g1 s ∧ BoxX W g2 t ∧ BoxD W g3 g (.slice da g.d.length dcap)) → Calls Try.prog 24 #[.agg (csA s.v s.l)] W fun e w' => e = .returned (.int .i64 (roomP s.v)) ∧ (Away [] w w' ∧ BoxX w' g1 s ∧ BoxX w' g2 t ∧ BoxD w' g3 g (.slice da g.d.length dcap))) :=
    fun W h => (room_c s W).mono fun e w' k => ⟨k.1, h.1.on k.2, h.2.1.on k.2, h.2.2.1.on k.2, h.2.2.2.on k.2⟩
  refine wp_region_cls (C := fun w' => Away [] w w' ∧ BoxX w' g1 s ∧ BoxX w' g2 t ∧ BoxD w' g3 g (.slice da g.d.length dcap)) (by kernel_rfl) (by kernel_rfl) HCL.out ?_
  go_big_quiet_want; (refine quiet_val ?_ ?_ ?_; rotate_left; (intro w; go_simp; rfl); go_simp; go_big_quiet_on)
  go_big_quiet_want; refine quiet_ld _ rfl (ad := ⟨g3, 3, none⟩) rfl (fun w' h => ldB h.2.2.2.c3) ?_; go_simp; go_big_quiet_on
  go_big_quiet_want; (refine quiet_val ?_ ?_ ?_; rotate_left; (intro w; go_simp; rfl); go_simp; go_big_quiet_on)
  go_big_quiet_want; refine quiet_ld _ rfl (ad := ⟨g1, 0, none⟩) rfl (fun w' h => load24_run h.2.1 HS.out) ?_; go_simp; go_big_quiet_on
  go_big_quiet_want; refine quiet_call 24 #[.agg (csA s.v s.l)] (.int .i64 (roomP s.v)) ?_ KR.out ?_
  · intro w; go_simp; done
  go_simp; go_big_quiet_on
  go_big_quiet_want; (refine quiet_val ?_ ?_ ?_; rotate_left; (intro w; go_simp; rfl); go_simp; go_big_quiet_on)
  refine wpQuiet_nil ?_
  intro V hV
  replace HA := Lib.hid hV.1; replace HB := Lib.hid hV.2.1; replace HC := Lib.hid hV.2.2.1; replace HD := Lib.hid hV.2.2.2
  clear hV KR HCL c0 c1 c2 c3 cv hl1 hl2 hl3
  have hl1 := HB.out.lt; have hl2 := HC.out.lt; have hl3 := HD.out.lt
  have c0 := HD.out.c0; have c1 := HD.out.c1; have c2 := HD.out.c2; have c3 := HD.out.c3; have cv := HB.out.cell
  obtain ⟨rm0, rm1⟩ := room_bd s.v
  generalize roomP s.v = rm at *
  rw [hns] at c2
  go_wp2_with fail
  refine (newWriter_any (8 + (g.d.length : Int)) _ (by omega) (by omega)).mono ?_
  intro E w5 hbe
  rw [show limOf (8 + (g.d.length : Int)) = (8 + (g.d.length : Int)) from by unfold limOf; rw [if_neg (by omega), if_pos (by omega)]] at hbe
  obtain ⟨gw, v, rfl, hL, haw⟩ := Wk.begin [g1, g2, g3] hbe (by exact HA.out) (by simp; omega)
  have HL := Lib.hid hL
  replace HB := Lib.hid (HB.out.on haw); replace HC := Lib.hid (HC.out.on haw); replace HD := Lib.hid (HD.out.on haw)
  clear hL haw hbe HA c0 c1 c2 c3 cv
  have c0 := HD.out.c0; have c1 := HD.out.c1; have c2 := HD.out.c2; have c3 := HD.out.c3
  rw [hns] at c2
  go_wp2_with fail
  refine (w16_any _ gw _ (8 + (g.d.length : Int)) _ 0 g.sp (by exact HL.out.wr) (by omega) (by omega)).mono ?_
  rw [wrFit (by (try simp only [List.length_append]); (try simp only [List.length_cons]); (try simp only [List.length_nil]); omega), wrFitE (by (try simp only [List.length_append]); (try simp only [List.length_cons]); (try simp only [List.length_nil]); omega)]
  intro E w' hk
  obtain ⟨rfl, v', hL, hkeep⟩ := HL.out.step hk
  replace HL := Lib.hid hL
  replace HB : Hid (BoxX w' g1 s) := (hkeep g1 (by simp)).trans HB.out
  replace HC : Hid (BoxX w' g2 t) := (hkeep g2 (by simp)).trans HC.out
  replace HD : Hid (BoxD w' g3 g (.slice da g.d.length dcap)) := (hkeep g3 (by simp)).trans HD.out
  clear hL hkeep hk c0 c1 c2 c3
  have c0 := HD.out.c0; have c1 := HD.out.c1; have c2 := HD.out.c2; have c3 := HD.out.c3
  rw [hns] at c2
  go_wp2_with fail
  refine (w16_any _ gw _ (8 + (g.d.length : Int)) _ 0 g.dp (by exact HL.out.wr) (by omega) (by omega)).mono ?_
  rw [wrFit (by (try simp only [List.length_append]); (try simp only [List.length_cons]); (try simp only [List.length_nil]); omega), wrFitE (by (try simp only [List.length_append]); (try simp only [List.length_cons]); (try simp only [List.length_nil]); omega)]
  intro E w' hk
  obtain ⟨rfl, v', hL, hkeep⟩ := HL.out.step hk
  replace HL := Lib.hid hL
  replace HB : Hid (BoxX w' g1 s) := (hkeep g1 (by simp)).trans HB.out
  replace HC : Hid (BoxX w' g2 t) := (hkeep g2 (by simp)).trans HC.out
  replace HD : Hid (BoxD w' g3 g (.slice da g.d.length dcap)) := (hkeep g3 (by simp)).trans HD.out
  clear hL hkeep hk c0 c1 c2 c3
  have c0 := HD.out.c0; have c1 := HD.out.c1; have c2 := HD.out.c2; have c3 := HD.out.c3
  rw [hns] at c2
  go_wp2_with fail
  refine (w16_any _ gw _ (8 + (g.d.length : Int)) _ 0 (8 + (g.d.length : Int)) (by exact HL.out.wr) (by omega) (by omega)).mono ?_
  rw [wrFit (by (try simp only [List.length_append]); (try simp only [List.length_cons]); (try simp only [List.length_nil]); omega), wrFitE (by (try simp only [List.length_append]); (try simp only [List.length_cons]); (try simp only [List.length_nil]); omega)]
  intro E w' hk
  obtain ⟨rfl, v', hL, hkeep⟩ := HL.out.step hk
  replace HL := Lib.hid hL
  replace HB : Hid (BoxX w' g1 s) := (hkeep g1 (by simp)).trans HB.out
  replace HC : Hid (BoxX w' g2 t) := (hkeep g2 (by simp)).trans HC.out
  replace HD : Hid (BoxD w' g3 g (.slice da g.d.length dcap)) := (hkeep g3 (by simp)).trans HD.out
  clear hL hkeep hk c0 c1 c2 c3
  have c0 := HD.out.c0; have c1 := HD.out.c1; have c2 := HD.out.c2; have c3 := HD.out.c3
  rw [hns] at c2
  go_wp2_with fail
  refine (w16_any _ gw _ (8 + (g.d.length : Int)) _ 0 0 (by exact HL.out.wr) (by omega) (by omega)).mono ?_
  rw [wrFit (by (try simp only [List.length_append]); (try simp only [List.length_cons]); (try simp only [List.length_nil]); omega), wrFitE (by (try simp only [List.length_append]); (try simp only [List.length_cons]); (try simp only [List.length_nil]); omega)]
  intro E w' hk
  obtain ⟨rfl, v', hL, hkeep⟩ := HL.out.step hk
  replace HL := Lib.hid hL
  replace HB : Hid (BoxX w' g1 s) := (hkeep g1 (by simp)).trans HB.out
  replace HC : Hid (BoxX w' g2 t) := (hkeep g2 (by simp)).trans HC.out
  replace HD : Hid (BoxD w' g3 g (.slice da g.d.length dcap)) := (hkeep g3 (by simp)).trans HD.out
  clear hL hkeep hk c0 c1 c2 c3
  have c0 := HD.out.c0; have c1 := HD.out.c1; have c2 := HD.out.c2; have c3 := HD.out.c3
  rw [hns] at c2
  obtain ⟨_, _, hdn, hdr⟩ := (HG.out.d.on HL.out.aw).of
  have HDR := Lib.hid hdr
  clear hdr
  go_wp2_with fail
  refine (wbytes_any _ gw _ (8 + (g.d.length : Int)) _ 0 da g.d g.d.length dcap (by exact HL.out.wr) rfl hdn (by exact HDR.out)).mono ?_
  rw [wrFit (by (try simp only [List.length_append]); (try simp only [List.length_cons]); (try simp only [List.length_nil]); omega), wrFitE (by (try simp only [List.length_append]); (try simp only [List.length_cons]); (try simp only [List.length_nil]); omega)]
  intro E w' hk
  obtain ⟨rfl, v', hL, hkeep⟩ := HL.out.step hk
  replace HL := Lib.hid hL
  replace HB : Hid (BoxX w' g1 s) := (hkeep g1 (by simp)).trans HB.out
  replace HC : Hid (BoxX w' g2 t) := (hkeep g2 (by simp)).trans HC.out
  replace HD : Hid (BoxD w' g3 g (.slice da g.d.length dcap)) := (hkeep g3 (by simp)).trans HD.out
  clear hL hkeep hk c0 c1 c2 c3
  have c0 := HD.out.c0; have c1 := HD.out.c1; have c2 := HD.out.c2; have c3 := HD.out.c3
  rw [hns] at c2
  have hraw : [] ++ [g.sp / 256, g.sp % 256] ++ [g.dp / 256, g.dp % 256] ++ [(8 + (g.d.length : Int)) / 256, (8 + (g.d.length : Int)) % 256] ++ [0 / 256, 0 % 256] ++ g.d = rawP g := by
    unfold rawP; simp
  rw [hraw] at HL
  have HRL := Lib.hid (raw_len g)
  clear HDR hdn hraw
  go_wp2_with fail
  refine (out_any _ gw _ (8 + (g.d.length : Int)) _ 0 (by exact HL.out.wr)).mono ?_
  rintro E w6 ⟨vo, rfl, hown, hnew, haw⟩
  rw [show ∀ l, wrOut l 0 = l from fun l => by unfold wrOut; rw [if_pos rfl]] at hown
  have HO := Lib.hid hown
  have HA : Hid (Away [] w w6) := HL.out.aw.on haw
  have hs6 := HL.out.aw.size
  clear haw hown
  go_wp2_with fail
  go_ret2
  exact ⟨vo, rfl, by unfold outP; rw [if_pos hns]; exact HO.out, hnew.mono (by omega), HA.out⟩
theorem build_yes_false (s t : Ax) (g : Dg) (dv : Value) (w : World) (hs : WfA s) (ht : WfA t) (hg : Dat w g dv) (hz : pairP s t = true) (h2 : wordP g.sp = true) (h3 : wordP g.dp = true) (h4 : g.ns = true → s.v ≠ 6) (hns : g.ns = false) (hr : (g.d.length : Int) ≤ roomP s.v) :
    Calls Try.prog 11 #[.agg (csA s.v s.l), .agg (csA t.v t.l), .agg (csD g dv)] w fun E w' => BuildOut w (outP s t g, 0) E w' := by
  have K1 : Hid (∀ w, Calls Try.prog 23 #[.agg (csA s.v s.l), .agg (csA t.v t.l)] w fun e w' => e = .returned (.bool true) ∧ Away [] w w') := fun w => by rw [← hz]; exact pair_c s t w hs ht
  have HS := Lib.hid hs
  have HT := Lib.hid ht
  have HG := Lib.hid hg
  have HF : Hid (Fit s.v g) := ⟨(word_iff.1 h2).1, (word_iff.1 h2).2, (word_iff.1 h3).1, (word_iff.1 h3).2, hr, fun _ => hns, hg.wf.d⟩
  have hrl0 := raw_len g
  have hrm0 := room_bd s.v
  obtain ⟨x, hx⟩ : ∃ x, x = smP s t (rawP g) := ⟨_, rfl⟩
  obtain ⟨x0, x1⟩ := sm_bd hs ht (raw_bytes HF.out) (by omega)
  have KC : Hid (∀ W a cap n, Row W a (rawP g) → (rawP g).length ≤ cap → n = (rawP g).length → Calls Try.prog 36 #[.agg (csA s.v s.l), .agg (csA t.v t.l), .slice a n cap] W fun E w' => E = .returned (.int .u16 x) ∧ Away [] W w') := fun W a cap n h1 h2 h3 => by subst h3; rw [hx]; exact checksum_c s t a (rawP g) cap W hs ht hz h1 h2 (by omega)
  rw [← hx] at x0 x1
  have HX := Lib.hid hx
  clear hx hrm0 hrl0
  have K2 : Hid (∀ w, Calls Try.prog 30 #[.int .i64 g.sp] w fun e w' => e = .returned (.bool true) ∧ w' = w) := fun w => by rw [← h2]; exact word_c g.sp w
  have K3 : Hid (∀ w, Calls Try.prog 30 #[.int .i64 g.dp] w fun e w' => e = .returned (.bool true) ∧ w' = w) := fun w => by rw [← h3]; exact word_c g.dp w
  obtain ⟨sp0, sp1⟩ := word_iff.1 h2
  obtain ⟨dp0, dp1⟩ := word_iff.1 h3
  have h46 := h4
  clear h4
  clear h2 h3
  clear hs ht hg hz
  go_enter Try.func11, Try.ntmps11
  go_wp2_with (refine wpList_box24 rfl _ rfl s rfl ?_; refine Hid.out ?_)
  refine Lib.hid ?_
  intro g1 w1 hg1 hb haw
  have HA := Lib.hid haw; have HB := Lib.hid hb
  clear hb haw
  go_wp2_with (refine wpList_box24 rfl _ rfl t rfl ?_; refine Hid.out ?_)
  refine Lib.hid ?_
  intro g2 w2 hg2 hb haw
  replace HA := Lib.hid (HA.out.on haw); replace HB := Lib.hid (HB.out.on haw); have HC := Lib.hid hb
  clear hb haw
  go_wp2_with (refine wpList_boxD rfl _ rfl g dv rfl ?_; refine Hid.out ?_)
  refine Lib.hid ?_
  intro g3 w3 hg3 hb haw
  replace HA := Lib.hid (HA.out.on haw); replace HB := Lib.hid (HB.out.on haw); replace HC := Lib.hid (HC.out.on haw); have HD := Lib.hid hb
  clear hb haw
  go_wp2_with (first | (refine wpList_loadX rfl _ rfl g1 rfl s (by exact HB.out) HS.out ?_) | (refine wpList_loadX rfl _ rfl g2 rfl t (by exact HC.out) HT.out ?_))
  refine (K1.out _).mono ?_
  rintro E w4 ⟨rfl, haw⟩
  replace HA := Lib.hid (HA.out.on haw); replace HB := Lib.hid (HB.out.on haw); replace HC := Lib.hid (HC.out.on haw); replace HD := Lib.hid (HD.out.on haw)
  have hl1 := HB.out.lt; have hl2 := HC.out.lt; have hl3 := HD.out.lt
  clear haw K1
  have c0 := HD.out.c0; have c1 := HD.out.c1; have c2 := HD.out.c2; have c3 := HD.out.c3; have cv := HB.out.cell
  go_wp2_with fail
  refine (K2.out _).mono ?_
  rintro E w4 ⟨rfl, rfl⟩
  clear K2
  go_wp2_with fail
  refine (K3.out _).mono ?_
  rintro E w4 ⟨rfl, rfl⟩
  clear K3
  rw [hns] at c2
  obtain ⟨da, dcap, hdv, hdc⟩ : ∃ a c, dv = .slice a g.d.length c ∧ g.d.length ≤ c := by obtain ⟨a, c, h, h2, _⟩ := HG.out.d; exact ⟨a, c, h, h2⟩
  subst hdv
  go_upto_region 3 with fail
  have HCL : Hid (Away [] w w4.drew ∧ BoxX w4.drew g1 s ∧ BoxX w4.drew g2 t ∧ BoxD w4.drew g3 g (.slice da g.d.length dcap)) := ⟨HA.out.drew, HB.out, HC.out, HD.out⟩
  have KR : Hid (∀ W, (Away [] w W ∧ BoxX W g1 s ∧ BoxX W g2 t ∧ BoxD W g3 g (.slice da g.d.length dcap)) → Calls Try.prog 24 #[.agg (csA s.v s.l)] W fun e w' => e = .returned (.int .i64 (roomP s.v)) ∧ (Away [] w w' ∧ BoxX w' g1 s ∧ BoxX w' g2 t ∧ BoxD w' g3 g (.slice da g.d.length dcap))) :=
    fun W h => (room_c s W).mono fun e w' k => ⟨k.1, h.1.on k.2, h.2.1.on k.2, h.2.2.1.on k.2, h.2.2.2.on k.2⟩
  refine wp_region_cls (C := fun w' => Away [] w w' ∧ BoxX w' g1 s ∧ BoxX w' g2 t ∧ BoxD w' g3 g (.slice da g.d.length dcap)) (by kernel_rfl) (by kernel_rfl) HCL.out ?_
  go_big_quiet_want; (refine quiet_val ?_ ?_ ?_; rotate_left; (intro w; go_simp; rfl); go_simp; go_big_quiet_on)
  go_big_quiet_want; refine quiet_ld _ rfl (ad := ⟨g3, 3, none⟩) rfl (fun w' h => ldB h.2.2.2.c3) ?_; go_simp; go_big_quiet_on
  go_big_quiet_want; (refine quiet_val ?_ ?_ ?_; rotate_left; (intro w; go_simp; rfl); go_simp; go_big_quiet_on)
  go_big_quiet_want; refine quiet_ld _ rfl (ad := ⟨g1, 0, none⟩) rfl (fun w' h => load24_run h.2.1 HS.out) ?_; go_simp; go_big_quiet_on
  go_big_quiet_want; refine quiet_call 24 #[.agg (csA s.v s.l)] (.int .i64 (roomP s.v)) ?_ KR.out ?_
  · intro w; go_simp; done
  go_simp; go_big_quiet_on
  go_big_quiet_want; (refine quiet_val ?_ ?_ ?_; rotate_left; (intro w; go_simp; rfl); go_simp; go_big_quiet_on)
  refine wpQuiet_nil ?_
  intro V hV
  replace HA := Lib.hid hV.1; replace HB := Lib.hid hV.2.1; replace HC := Lib.hid hV.2.2.1; replace HD := Lib.hid hV.2.2.2
  clear hV KR HCL c0 c1 c2 c3 cv hl1 hl2 hl3
  have hl1 := HB.out.lt; have hl2 := HC.out.lt; have hl3 := HD.out.lt
  have c0 := HD.out.c0; have c1 := HD.out.c1; have c2 := HD.out.c2; have c3 := HD.out.c3; have cv := HB.out.cell
  obtain ⟨rm0, rm1⟩ := room_bd s.v
  generalize roomP s.v = rm at *
  rw [hns] at c2
  go_wp2_with fail
  refine (newWriter_any (8 + (g.d.length : Int)) _ (by omega) (by omega)).mono ?_
  intro E w5 hbe
  rw [show limOf (8 + (g.d.length : Int)) = (8 + (g.d.length : Int)) from by unfold limOf; rw [if_neg (by omega), if_pos (by omega)]] at hbe
  obtain ⟨gw, v, rfl, hL, haw⟩ := Wk.begin [g1, g2, g3] hbe (by exact HA.out) (by simp; omega)
  have HL := Lib.hid hL
  replace HB := Lib.hid (HB.out.on haw); replace HC := Lib.hid (HC.out.on haw); replace HD := Lib.hid (HD.out.on haw)
  clear hL haw hbe HA c0 c1 c2 c3 cv
  have c0 := HD.out.c0; have c1 := HD.out.c1; have c2 := HD.out.c2; have c3 := HD.out.c3
  rw [hns] at c2
  go_wp2_with fail
  refine (w16_any _ gw _ (8 + (g.d.length : Int)) _ 0 g.sp (by exact HL.out.wr) (by omega) (by omega)).mono ?_
  rw [wrFit (by (try simp only [List.length_append]); (try simp only [List.length_cons]); (try simp only [List.length_nil]); omega), wrFitE (by (try simp only [List.length_append]); (try simp only [List.length_cons]); (try simp only [List.length_nil]); omega)]
  intro E w' hk
  obtain ⟨rfl, v', hL, hkeep⟩ := HL.out.step hk
  replace HL := Lib.hid hL
  replace HB : Hid (BoxX w' g1 s) := (hkeep g1 (by simp)).trans HB.out
  replace HC : Hid (BoxX w' g2 t) := (hkeep g2 (by simp)).trans HC.out
  replace HD : Hid (BoxD w' g3 g (.slice da g.d.length dcap)) := (hkeep g3 (by simp)).trans HD.out
  clear hL hkeep hk c0 c1 c2 c3
  have c0 := HD.out.c0; have c1 := HD.out.c1; have c2 := HD.out.c2; have c3 := HD.out.c3
  rw [hns] at c2
  go_wp2_with fail
  refine (w16_any _ gw _ (8 + (g.d.length : Int)) _ 0 g.dp (by exact HL.out.wr) (by omega) (by omega)).mono ?_
  rw [wrFit (by (try simp only [List.length_append]); (try simp only [List.length_cons]); (try simp only [List.length_nil]); omega), wrFitE (by (try simp only [List.length_append]); (try simp only [List.length_cons]); (try simp only [List.length_nil]); omega)]
  intro E w' hk
  obtain ⟨rfl, v', hL, hkeep⟩ := HL.out.step hk
  replace HL := Lib.hid hL
  replace HB : Hid (BoxX w' g1 s) := (hkeep g1 (by simp)).trans HB.out
  replace HC : Hid (BoxX w' g2 t) := (hkeep g2 (by simp)).trans HC.out
  replace HD : Hid (BoxD w' g3 g (.slice da g.d.length dcap)) := (hkeep g3 (by simp)).trans HD.out
  clear hL hkeep hk c0 c1 c2 c3
  have c0 := HD.out.c0; have c1 := HD.out.c1; have c2 := HD.out.c2; have c3 := HD.out.c3
  rw [hns] at c2
  go_wp2_with fail
  refine (w16_any _ gw _ (8 + (g.d.length : Int)) _ 0 (8 + (g.d.length : Int)) (by exact HL.out.wr) (by omega) (by omega)).mono ?_
  rw [wrFit (by (try simp only [List.length_append]); (try simp only [List.length_cons]); (try simp only [List.length_nil]); omega), wrFitE (by (try simp only [List.length_append]); (try simp only [List.length_cons]); (try simp only [List.length_nil]); omega)]
  intro E w' hk
  obtain ⟨rfl, v', hL, hkeep⟩ := HL.out.step hk
  replace HL := Lib.hid hL
  replace HB : Hid (BoxX w' g1 s) := (hkeep g1 (by simp)).trans HB.out
  replace HC : Hid (BoxX w' g2 t) := (hkeep g2 (by simp)).trans HC.out
  replace HD : Hid (BoxD w' g3 g (.slice da g.d.length dcap)) := (hkeep g3 (by simp)).trans HD.out
  clear hL hkeep hk c0 c1 c2 c3
  have c0 := HD.out.c0; have c1 := HD.out.c1; have c2 := HD.out.c2; have c3 := HD.out.c3
  rw [hns] at c2
  go_wp2_with fail
  refine (w16_any _ gw _ (8 + (g.d.length : Int)) _ 0 0 (by exact HL.out.wr) (by omega) (by omega)).mono ?_
  rw [wrFit (by (try simp only [List.length_append]); (try simp only [List.length_cons]); (try simp only [List.length_nil]); omega), wrFitE (by (try simp only [List.length_append]); (try simp only [List.length_cons]); (try simp only [List.length_nil]); omega)]
  intro E w' hk
  obtain ⟨rfl, v', hL, hkeep⟩ := HL.out.step hk
  replace HL := Lib.hid hL
  replace HB : Hid (BoxX w' g1 s) := (hkeep g1 (by simp)).trans HB.out
  replace HC : Hid (BoxX w' g2 t) := (hkeep g2 (by simp)).trans HC.out
  replace HD : Hid (BoxD w' g3 g (.slice da g.d.length dcap)) := (hkeep g3 (by simp)).trans HD.out
  clear hL hkeep hk c0 c1 c2 c3
  have c0 := HD.out.c0; have c1 := HD.out.c1; have c2 := HD.out.c2; have c3 := HD.out.c3
  rw [hns] at c2
  obtain ⟨_, _, hdn, hdr⟩ := (HG.out.d.on HL.out.aw).of
  have HDR := Lib.hid hdr
  clear hdr
  go_wp2_with fail
  refine (wbytes_any _ gw _ (8 + (g.d.length : Int)) _ 0 da g.d g.d.length dcap (by exact HL.out.wr) rfl hdn (by exact HDR.out)).mono ?_
  rw [wrFit (by (try simp only [List.length_append]); (try simp only [List.length_cons]); (try simp only [List.length_nil]); omega), wrFitE (by (try simp only [List.length_append]); (try simp only [List.length_cons]); (try simp only [List.length_nil]); omega)]
  intro E w' hk
  obtain ⟨rfl, v', hL, hkeep⟩ := HL.out.step hk
  replace HL := Lib.hid hL
  replace HB : Hid (BoxX w' g1 s) := (hkeep g1 (by simp)).trans HB.out
  replace HC : Hid (BoxX w' g2 t) := (hkeep g2 (by simp)).trans HC.out
  replace HD : Hid (BoxD w' g3 g (.slice da g.d.length dcap)) := (hkeep g3 (by simp)).trans HD.out
  clear hL hkeep hk c0 c1 c2 c3
  have c0 := HD.out.c0; have c1 := HD.out.c1; have c2 := HD.out.c2; have c3 := HD.out.c3
  rw [hns] at c2
  have hraw : [] ++ [g.sp / 256, g.sp % 256] ++ [g.dp / 256, g.dp % 256] ++ [(8 + (g.d.length : Int)) / 256, (8 + (g.d.length : Int)) % 256] ++ [0 / 256, 0 % 256] ++ g.d = rawP g := by
    unfold rawP; simp
  rw [hraw] at HL
  have HRL := Lib.hid (raw_len g)
  clear HDR hdn hraw
  have HRB := Lib.hid (raw_bytes HF.out)
  go_wp2_with fail
  refine (out_any _ gw _ (8 + (g.d.length : Int)) _ 0 (by exact HL.out.wr)).mono ?_
  rintro E w6 ⟨vo, rfl, hown, hnew, haw⟩
  rw [show ∀ l, wrOut l 0 = l from fun l => by unfold wrOut; rw [if_pos rfl]] at hown
  obtain ⟨ao, co, rfl, ho1, ho2, ho3, _⟩ := hown.row (by have := HRL.out; omega) HRB.out
  have HO := Lib.hid ho3
  have hk6 := fun k (h : k < _) => haw.block k h (by simp)
  replace HB := Lib.hid (HB.out.on haw); replace HC := Lib.hid (HC.out.on haw)
  replace HL : Hid (Wk w w6 [g1, g2, g3] gw _ (8 + (g.d.length : Int)) (rawP g)) := ⟨HL.out.aw.on haw, HL.out.wr.away haw (by simp) (by simp), HL.out.new, HL.out.gB, fun k hk => ⟨(HL.out.ap k hk).1, (HL.out.ap k hk).2.1, Nat.lt_of_lt_of_le (HL.out.ap k hk).2.2 haw.size⟩⟩
  clear hown haw ho3 hnew hk6 HD c0 c1 c2 c3
  go_wp2_with (first | (refine wpList_loadX rfl _ rfl g1 rfl s (by exact HB.out) HS.out ?_) | (refine wpList_loadX rfl _ rfl g2 rfl t (by exact HC.out) HT.out ?_))
  refine (KC.out _ ao co _ (by exact HO.out) ho1 rfl).mono ?_
  rintro E w7 ⟨rfl, haw⟩
  replace HL : Hid (Wk w w7 [g1, g2, g3] gw _ (8 + (g.d.length : Int)) (rawP g)) := ⟨HL.out.aw.on haw, HL.out.wr.away haw (by simp) (by simp), HL.out.new, HL.out.gB, fun k hk => ⟨(HL.out.ap k hk).1, (HL.out.ap k hk).2.1, Nat.lt_of_lt_of_le (HL.out.ap k hk).2.2 haw.size⟩⟩
  clear haw HB HC KC HO
  go_wp2_with fail
  refine (put16_any _ gw _ (8 + (g.d.length : Int)) (rawP g) 0 6 x (by exact HL.out.wr) (by omega) (by omega) (by omega) (by omega)).mono ?_
  rw [show putAll (rawP g) 0 6 x = layP s t g from by have := HRL.out; unfold putAll layP; rw [if_pos ⟨rfl, by omega, by omega⟩, HX.out]; rfl, show putErr (rawP g) 0 6 = 0 from by have := HRL.out; unfold putErr; rw [if_pos rfl, if_pos ⟨by omega, by omega⟩]]
  intro E w' hk
  obtain ⟨rfl, v', hL, hkeep⟩ := HL.out.step hk
  replace HL := Lib.hid hL
  clear hL hkeep hk
  go_wp2_with fail
  refine (out_any _ gw _ (8 + (g.d.length : Int)) _ 0 (by exact HL.out.wr)).mono ?_
  rintro E w8 ⟨vo, rfl, hown, hnew, haw⟩
  rw [show ∀ l, wrOut l 0 = l from fun l => by unfold wrOut; rw [if_pos rfl]] at hown
  have HO := Lib.hid hown
  have HA : Hid (Away [] w w8) := HL.out.aw.on haw
  have hs6 := HL.out.aw.size
  clear haw hown
  go_wp2_with fail
  go_ret2
  exact ⟨vo, rfl, by unfold outP; rw [if_neg (by rw [hns]; simp)]; exact HO.out, hnew.mono (by omega), HA.out⟩
theorem build_c (s t : Ax) (g : Dg) (dv : Value) (w : World) (hs : WfA s) (ht : WfA t) (hg : Dat w g dv) :
    Calls Try.prog 11 #[.agg (csA s.v s.l), .agg (csA t.v t.l), .agg (csD g dv)] w fun E w' => BuildOut w (buildP s t g) E w' := by
  unfold buildP
  cases hz : pairP s t
  · rw [if_neg (by simp [bdOk, hz])]; exact build_no1 s t g dv w hs ht hg hz
  · cases h2 : wordP g.sp
    · rw [if_neg (by simp [bdOk, h2])]; exact build_no2 s t g dv w hs ht hg hz h2
    · cases h3 : wordP g.dp
      · rw [if_neg (by simp [bdOk, h3])]; exact build_no3 s t g dv w hs ht hg hz h2 h3
      · by_cases h46 : g.ns = true ∧ s.v = 6
        · rw [if_neg (by simp [bdOk, h46.1, h46.2])]; exact build_no4 s t g dv w hs ht hg hz h2 h3 h46.1 h46.2
        · have h4 : g.ns = true → s.v ≠ 6 := fun h k => h46 ⟨h, k⟩
          rw [if_pos (by simp only [bdOk, hz, h2, h3, Bool.and_eq_true, Bool.not_eq_true', Bool.and_eq_false_iff, decide_eq_false_iff_not]; refine ⟨⟨⟨trivial, trivial⟩, trivial⟩, ?_⟩; cases hns : g.ns; exact .inl rfl; exact .inr (h4 hns))]
          by_cases hr : (g.d.length : Int) ≤ roomP s.v
          · rw [if_pos hr]
            cases hns : g.ns
            · exact build_yes_false s t g dv w hs ht hg hz h2 h3 h4 hns hr
            · exact build_yes_true s t g dv w hs ht hg hz h2 h3 h4 hns hr
          · rw [if_neg hr]
            cases hns : g.ns
            · exact build_long_false s t g dv w hs ht hg hz h2 h3 h4 hns (by omega)
            · exact build_long_true s t g dv w hs ht hg hz h2 h3 h4 hns (by omega)
#print axioms build_c
end Go.Proofs.Ytbfpphoiapggnaa
