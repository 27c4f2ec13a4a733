/-
  most, Build of the document.
-/
import Derived.Test.YtbfpphoiapggnaaRefV
import Derived.Test.YtbfpphoiapggnaaBp
namespace Go.Proofs.Ytbfpphoiapggnaa
open Go.ChangeShapes Go.WideShapes Go.ChangeAt Go.RowKit Num
set_option linter.unusedVariables false
set_option maxHeartbeats 4000000
set_option maxRecDepth 100000

theorem most_c (s : Ax) (w : World) : Calls Try.prog 42 #[.agg (csA s.v s.l)] w fun e w' => e = .returned (.int .i64 (roomP s.v)) ∧ Away [] w w' := by
  by_cases h4 : s.v = 4
  · rw [show roomP s.v = 65507 from by unfold roomP; rw [if_pos h4]]
    go_enter Try.func42, Try.ntmps42
    go_wp2_with (refine wpList_box24 rfl _ rfl s rfl ?_; refine Hid.out ?_)
    refine Lib.hid ?_
    intro g w1 hg hb haw
    have c := hb.cell
    rw [h4] at c
    have HA := Lib.hid haw
    clear hb haw
    go_wp2_with fail
    go_ret
    exact ⟨rfl, HA.out⟩
  · rw [show roomP s.v = 65527 from by unfold roomP; rw [if_neg h4]]
    go_enter Try.func42, Try.ntmps42
    go_wp2_with (refine wpList_box24 rfl _ rfl s rfl ?_; refine Hid.out ?_)
    refine Lib.hid ?_
    intro g w1 hg hb haw
    have c := hb.cell
    have b1 : (s.v == 4) = false := by simpa using h4
    generalize s.v = v at *
    have HA := Lib.hid haw
    clear hb haw
    go_wp2_with fail
    go_ret
    exact ⟨rfl, HA.out⟩
theorem rof_at (a : Option Addr) (l : List Int) (n cap : Nat) (w : World) (hn : l.length = n) (hr : Row w a l) :
    Calls Try.prog 43 #[.slice a n cap] w fun e w' => e = .returned (.int .i64 (65535 - pt l)) ∧ w' = w := by subst hn; exact rof_any a l cap w hr
theorem Owns.slc0 {w : World} {v : Value} {l : List Int} (h : Owns w v l) : ∃ a c, v = .slice a l.length c ∧ (a = none → c = 0) ∧ l.length ≤ c := by
  rcases h.2 with ⟨rfl, h0⟩ | ⟨g, cap, cur, rfl, _, _, h4, _⟩
  · have : l = [] := by simpa using h0
    subst this
    exact ⟨none, 0, rfl, fun _ => rfl, by simp⟩
  · exact ⟨some ⟨g, 0, none⟩, cap, by simp, by simp, by simpa using h4⟩
theorem rbuild_no1 (s t : Ax) (g : Dg) (dv : Value) (w : World) (hs : WfA s) (ht : WfA t) (hg : Dat w g dv) (hz : pairP s t = false) :
    Calls Try.prog 22 #[.agg (csA s.v s.l), .agg (csA t.v t.l), .agg (csD g dv)] w fun E w' => BuildOut w ([], 1) E w' := by
  have K1 : Hid (∀ w, Calls Try.prog 39 #[.agg (csA s.v s.l), .agg (csA t.v t.l)] w fun e w' => e = .returned (.bool false) ∧ Away [] w w') := fun w => by rw [← hz]; exact rpair_c s t w hs ht
  have HS := Lib.hid hs
  have HT := Lib.hid ht
  have HG := Lib.hid hg
  clear hs ht hg hz
  go_enter Try.func22, Try.ntmps22
  go_wp2_with (refine wpList_box24 rfl _ rfl s rfl ?_; refine Hid.out ?_)
  refine Lib.hid ?_
  intro g1 w1 hg1 hb haw
  have HA := Lib.hid haw; have HB := Lib.hid hb
  clear hb haw
  go_wp2_with (refine wpList_box24 rfl _ rfl t rfl ?_; refine Hid.out ?_)
  refine Lib.hid ?_
  intro g2 w2 hg2 hb haw
  replace HA := Lib.hid (HA.out.on haw); replace HB := Lib.hid (HB.out.on haw); have HC := Lib.hid hb
  clear hb haw
  go_wp2_with (refine wpList_boxD rfl _ rfl g dv rfl ?_; refine Hid.out ?_)
  refine Lib.hid ?_
  intro g3 w3 hg3 hb haw
  replace HA := Lib.hid (HA.out.on haw); replace HB := Lib.hid (HB.out.on haw); replace HC := Lib.hid (HC.out.on haw); have HD := Lib.hid hb
  clear hb haw
  go_wp2_with (first | (refine wpList_loadX rfl _ rfl g1 rfl s (by exact HB.out) HS.out ?_) | (refine wpList_loadX rfl _ rfl g2 rfl t (by exact HC.out) HT.out ?_))
  refine (K1.out _).mono ?_
  rintro E w4 ⟨rfl, haw⟩
  replace HA := Lib.hid (HA.out.on haw); replace HB := Lib.hid (HB.out.on haw); replace HC := Lib.hid (HC.out.on haw); replace HD := Lib.hid (HD.out.on haw)
  have hl1 := HB.out.lt; have hl2 := HC.out.lt; have hl3 := HD.out.lt
  clear haw K1
  have c0 := HD.out.c0; have c1 := HD.out.c1; have c2 := HD.out.c2; have c3 := HD.out.c3; have cv := HB.out.cell
  go_wp2_with fail
  go_ret2
  exact BuildOut.no 1 HA.out
theorem rbuild_no2 (s t : Ax) (g : Dg) (dv : Value) (w : World) (hs : WfA s) (ht : WfA t) (hg : Dat w g dv) (hz : pairP s t = true) (h : g.sp < 0) :
    Calls Try.prog 22 #[.agg (csA s.v s.l), .agg (csA t.v t.l), .agg (csD g dv)] w fun E w' => BuildOut w ([], 1) E w' := by
  have K1 : Hid (∀ w, Calls Try.prog 39 #[.agg (csA s.v s.l), .agg (csA t.v t.l)] w fun e w' => e = .returned (.bool true) ∧ Away [] w w') := fun w => by rw [← hz]; exact rpair_c s t w hs ht
  have HS := Lib.hid hs
  have HT := Lib.hid ht
  have HG := Lib.hid hg
  clear hs ht hg hz
  go_enter Try.func22, Try.ntmps22
  go_wp2_with (refine wpList_box24 rfl _ rfl s rfl ?_; refine Hid.out ?_)
  refine Lib.hid ?_
  intro g1 w1 hg1 hb haw
  have HA := Lib.hid haw; have HB := Lib.hid hb
  clear hb haw
  go_wp2_with (refine wpList_box24 rfl _ rfl t rfl ?_; refine Hid.out ?_)
  refine Lib.hid ?_
  intro g2 w2 hg2 hb haw
  replace HA := Lib.hid (HA.out.on haw); replace HB := Lib.hid (HB.out.on haw); have HC := Lib.hid hb
  clear hb haw
  go_wp2_with (refine wpList_boxD rfl _ rfl g dv rfl ?_; refine Hid.out ?_)
  refine Lib.hid ?_
  intro g3 w3 hg3 hb haw
  replace HA := Lib.hid (HA.out.on haw); replace HB := Lib.hid (HB.out.on haw); replace HC := Lib.hid (HC.out.on haw); have HD := Lib.hid hb
  clear hb haw
  go_wp2_with (first | (refine wpList_loadX rfl _ rfl g1 rfl s (by exact HB.out) HS.out ?_) | (refine wpList_loadX rfl _ rfl g2 rfl t (by exact HC.out) HT.out ?_))
  refine (K1.out _).mono ?_
  rintro E w4 ⟨rfl, haw⟩
  replace HA := Lib.hid (HA.out.on haw); replace HB := Lib.hid (HB.out.on haw); replace HC := Lib.hid (HC.out.on haw); replace HD := Lib.hid (HD.out.on haw)
  have hl1 := HB.out.lt; have hl2 := HC.out.lt; have hl3 := HD.out.lt
  clear haw K1
  have c0 := HD.out.c0; have c1 := HD.out.c1; have c2 := HD.out.c2; have c3 := HD.out.c3; have cv := HB.out.cell
  go_wp2_with fail
  go_ret2
  exact BuildOut.no 1 HA.out
theorem rbuild_no3 (s t : Ax) (g : Dg) (dv : Value) (w : World) (hs : WfA s) (ht : WfA t) (hg : Dat w g dv) (hz : pairP s t = true) (a0 : 0 ≤ g.sp) (h : 65535 < g.sp) :
    Calls Try.prog 22 #[.agg (csA s.v s.l), .agg (csA t.v t.l), .agg (csD g dv)] w fun E w' => BuildOut w ([], 1) E w' := by
  have K1 : Hid (∀ w, Calls Try.prog 39 #[.agg (csA s.v s.l), .agg (csA t.v t.l)] w fun e w' => e = .returned (.bool true) ∧ Away [] w w') := fun w => by rw [← hz]; exact rpair_c s t w hs ht
  have HS := Lib.hid hs
  have HT := Lib.hid ht
  have HG := Lib.hid hg
  clear hs ht hg hz
  go_enter Try.func22, Try.ntmps22
  go_wp2_with (refine wpList_box24 rfl _ rfl s rfl ?_; refine Hid.out ?_)
  refine Lib.hid ?_
  intro g1 w1 hg1 hb haw
  have HA := Lib.hid haw; have HB := Lib.hid hb
  clear hb haw
  go_wp2_with (refine wpList_box24 rfl _ rfl t rfl ?_; refine Hid.out ?_)
  refine Lib.hid ?_
  intro g2 w2 hg2 hb haw
  replace HA := Lib.hid (HA.out.on haw); replace HB := Lib.hid (HB.out.on haw); have HC := Lib.hid hb
  clear hb haw
  go_wp2_with (refine wpList_boxD rfl _ rfl g dv rfl ?_; refine Hid.out ?_)
  refine Lib.hid ?_
  intro g3 w3 hg3 hb haw
  replace HA := Lib.hid (HA.out.on haw); replace HB := Lib.hid (HB.out.on haw); replace HC := Lib.hid (HC.out.on haw); have HD := Lib.hid hb
  clear hb haw
  go_wp2_with (first | (refine wpList_loadX rfl _ rfl g1 rfl s (by exact HB.out) HS.out ?_) | (refine wpList_loadX rfl _ rfl g2 rfl t (by exact HC.out) HT.out ?_))
  refine (K1.out _).mono ?_
  rintro E w4 ⟨rfl, haw⟩
  replace HA := Lib.hid (HA.out.on haw); replace HB := Lib.hid (HB.out.on haw); replace HC := Lib.hid (HC.out.on haw); replace HD := Lib.hid (HD.out.on haw)
  have hl1 := HB.out.lt; have hl2 := HC.out.lt; have hl3 := HD.out.lt
  clear haw K1
  have c0 := HD.out.c0; have c1 := HD.out.c1; have c2 := HD.out.c2; have c3 := HD.out.c3; have cv := HB.out.cell
  go_wp2_with fail
  go_ret2
  exact BuildOut.no 1 HA.out
theorem rbuild_no4 (s t : Ax) (g : Dg) (dv : Value) (w : World) (hs : WfA s) (ht : WfA t) (hg : Dat w g dv) (hz : pairP s t = true) (a0 : 0 ≤ g.sp) (a1 : g.sp ≤ 65535) (h : g.dp < 0) :
    Calls Try.prog 22 #[.agg (csA s.v s.l), .agg (csA t.v t.l), .agg (csD g dv)] w fun E w' => BuildOut w ([], 1) E w' := by
  have K1 : Hid (∀ w, Calls Try.prog 39 #[.agg (csA s.v s.l), .agg (csA t.v t.l)] w fun e w' => e = .returned (.bool true) ∧ Away [] w w') := fun w => by rw [← hz]; exact rpair_c s t w hs ht
  have HS := Lib.hid hs
  have HT := Lib.hid ht
  have HG := Lib.hid hg
  clear hs ht hg hz
  go_enter Try.func22, Try.ntmps22
  go_wp2_with (refine wpList_box24 rfl _ rfl s rfl ?_; refine Hid.out ?_)
  refine Lib.hid ?_
  intro g1 w1 hg1 hb haw
  have HA := Lib.hid haw; have HB := Lib.hid hb
  clear hb haw
  go_wp2_with (refine wpList_box24 rfl _ rfl t rfl ?_; refine Hid.out ?_)
  refine Lib.hid ?_
  intro g2 w2 hg2 hb haw
  replace HA := Lib.hid (HA.out.on haw); replace HB := Lib.hid (HB.out.on haw); have HC := Lib.hid hb
  clear hb haw
  go_wp2_with (refine wpList_boxD rfl _ rfl g dv rfl ?_; refine Hid.out ?_)
  refine Lib.hid ?_
  intro g3 w3 hg3 hb haw
  replace HA := Lib.hid (HA.out.on haw); replace HB := Lib.hid (HB.out.on haw); replace HC := Lib.hid (HC.out.on haw); have HD := Lib.hid hb
  clear hb haw
  go_wp2_with (first | (refine wpList_loadX rfl _ rfl g1 rfl s (by exact HB.out) HS.out ?_) | (refine wpList_loadX rfl _ rfl g2 rfl t (by exact HC.out) HT.out ?_))
  refine (K1.out _).mono ?_
  rintro E w4 ⟨rfl, haw⟩
  replace HA := Lib.hid (HA.out.on haw); replace HB := Lib.hid (HB.out.on haw); replace HC := Lib.hid (HC.out.on haw); replace HD := Lib.hid (HD.out.on haw)
  have hl1 := HB.out.lt; have hl2 := HC.out.lt; have hl3 := HD.out.lt
  clear haw K1
  have c0 := HD.out.c0; have c1 := HD.out.c1; have c2 := HD.out.c2; have c3 := HD.out.c3; have cv := HB.out.cell
  go_wp2_with fail
  go_ret2
  exact BuildOut.no 1 HA.out
theorem rbuild_no5 (s t : Ax) (g : Dg) (dv : Value) (w : World) (hs : WfA s) (ht : WfA t) (hg : Dat w g dv) (hz : pairP s t = true) (a0 : 0 ≤ g.sp) (a1 : g.sp ≤ 65535) (b0 : 0 ≤ g.dp) (h : 65535 < g.dp) :
    Calls Try.prog 22 #[.agg (csA s.v s.l), .agg (csA t.v t.l), .agg (csD g dv)] w fun E w' => BuildOut w ([], 1) E w' := by
  have K1 : Hid (∀ w, Calls Try.prog 39 #[.agg (csA s.v s.l), .agg (csA t.v t.l)] w fun e w' => e = .returned (.bool true) ∧ Away [] w w') := fun w => by rw [← hz]; exact rpair_c s t w hs ht
  have HS := Lib.hid hs
  have HT := Lib.hid ht
  have HG := Lib.hid hg
  clear hs ht hg hz
  go_enter Try.func22, Try.ntmps22
  go_wp2_with (refine wpList_box24 rfl _ rfl s rfl ?_; refine Hid.out ?_)
  refine Lib.hid ?_
  intro g1 w1 hg1 hb haw
  have HA := Lib.hid haw; have HB := Lib.hid hb
  clear hb haw
  go_wp2_with (refine wpList_box24 rfl _ rfl t rfl ?_; refine Hid.out ?_)
  refine Lib.hid ?_
  intro g2 w2 hg2 hb haw
  replace HA := Lib.hid (HA.out.on haw); replace HB := Lib.hid (HB.out.on haw); have HC := Lib.hid hb
  clear hb haw
  go_wp2_with (refine wpList_boxD rfl _ rfl g dv rfl ?_; refine Hid.out ?_)
  refine Lib.hid ?_
  intro g3 w3 hg3 hb haw
  replace HA := Lib.hid (HA.out.on haw); replace HB := Lib.hid (HB.out.on haw); replace HC := Lib.hid (HC.out.on haw); have HD := Lib.hid hb
  clear hb haw
  go_wp2_with (first | (refine wpList_loadX rfl _ rfl g1 rfl s (by exact HB.out) HS.out ?_) | (refine wpList_loadX rfl _ rfl g2 rfl t (by exact HC.out) HT.out ?_))
  refine (K1.out _).mono ?_
  rintro E w4 ⟨rfl, haw⟩
  replace HA := Lib.hid (HA.out.on haw); replace HB := Lib.hid (HB.out.on haw); replace HC := Lib.hid (HC.out.on haw); replace HD := Lib.hid (HD.out.on haw)
  have hl1 := HB.out.lt; have hl2 := HC.out.lt; have hl3 := HD.out.lt
  clear haw K1
  have c0 := HD.out.c0; have c1 := HD.out.c1; have c2 := HD.out.c2; have c3 := HD.out.c3; have cv := HB.out.cell
  go_wp2_with fail
  go_ret2
  exact BuildOut.no 1 HA.out
theorem rbuild_no6 (s t : Ax) (g : Dg) (dv : Value) (w : World) (hs : WfA s) (ht : WfA t) (hg : Dat w g dv) (hz : pairP s t = true) (a0 : 0 ≤ g.sp) (a1 : g.sp ≤ 65535) (b0 : 0 ≤ g.dp) (b1 : g.dp ≤ 65535) (h4 : g.ns = true) (h6 : s.v = 6) :
    Calls Try.prog 22 #[.agg (csA s.v s.l), .agg (csA t.v t.l), .agg (csD g dv)] w fun E w' => BuildOut w ([], 1) E w' := by
  have K1 : Hid (∀ w, Calls Try.prog 39 #[.agg (csA s.v s.l), .agg (csA t.v t.l)] w fun e w' => e = .returned (.bool true) ∧ Away [] w w') := fun w => by rw [← hz]; exact rpair_c s t w hs ht
  have HS := Lib.hid hs
  have HT := Lib.hid ht
  have HG := Lib.hid hg
  have H4 := Lib.hid h4; have H6 := Lib.hid h6
  clear h4 h6
  clear hs ht hg hz
  go_enter Try.func22, Try.ntmps22
  go_wp2_with (refine wpList_box24 rfl _ rfl s rfl ?_; refine Hid.out ?_)
  refine Lib.hid ?_
  intro g1 w1 hg1 hb haw
  have HA := Lib.hid haw; have HB := Lib.hid hb
  clear hb haw
  go_wp2_with (refine wpList_box24 rfl _ rfl t rfl ?_; refine Hid.out ?_)
  refine Lib.hid ?_
  intro g2 w2 hg2 hb haw
  replace HA := Lib.hid (HA.out.on haw); replace HB := Lib.hid (HB.out.on haw); have HC := Lib.hid hb
  clear hb haw
  go_wp2_with (refine wpList_boxD rfl _ rfl g dv rfl ?_; refine Hid.out ?_)
  refine Lib.hid ?_
  intro g3 w3 hg3 hb haw
  replace HA := Lib.hid (HA.out.on haw); replace HB := Lib.hid (HB.out.on haw); replace HC := Lib.hid (HC.out.on haw); have HD := Lib.hid hb
  clear hb haw
  go_wp2_with (first | (refine wpList_loadX rfl _ rfl g1 rfl s (by exact HB.out) HS.out ?_) | (refine wpList_loadX rfl _ rfl g2 rfl t (by exact HC.out) HT.out ?_))
  refine (K1.out _).mono ?_
  rintro E w4 ⟨rfl, haw⟩
  replace HA := Lib.hid (HA.out.on haw); replace HB := Lib.hid (HB.out.on haw); replace HC := Lib.hid (HC.out.on haw); replace HD := Lib.hid (HD.out.on haw)
  have hl1 := HB.out.lt; have hl2 := HC.out.lt; have hl3 := HD.out.lt
  clear haw K1
  have c0 := HD.out.c0; have c1 := HD.out.c1; have c2 := HD.out.c2; have c3 := HD.out.c3; have cv := HB.out.cell
  rw [H4.out] at c2
  rw [H6.out] at cv
  go_wp2_with fail
  go_ret2
  exact BuildOut.no 1 HA.out
theorem rbuild_long_true (s t : Ax) (g : Dg) (dv : Value) (w : World) (hs : WfA s) (ht : WfA t) (hg : Dat w g dv) (hz : pairP s t = true) (a0 : 0 ≤ g.sp) (a1 : g.sp ≤ 65535) (b0 : 0 ≤ g.dp) (b1 : g.dp ≤ 65535) (h4 : g.ns = true → s.v ≠ 6) (hns : g.ns = true) (hr : roomP s.v < g.d.length) :
    Calls Try.prog 22 #[.agg (csA s.v s.l), .agg (csA t.v t.l), .agg (csD g dv)] w fun E w' => BuildOut w ([], 3) E w' := by
  have K1 : Hid (∀ w, Calls Try.prog 39 #[.agg (csA s.v s.l), .agg (csA t.v t.l)] w fun e w' => e = .returned (.bool true) ∧ Away [] w w') := fun w => by rw [← hz]; exact rpair_c s t w hs ht
  have HS := Lib.hid hs
  have HT := Lib.hid ht
  have HG := Lib.hid hg
  clear hs ht hg hz
  go_enter Try.func22, Try.ntmps22
  go_wp2_with (refine wpList_box24 rfl _ rfl s rfl ?_; refine Hid.out ?_)
  refine Lib.hid ?_
  intro g1 w1 hg1 hb haw
  have HA := Lib.hid haw; have HB := Lib.hid hb
  clear hb haw
  go_wp2_with (refine wpList_box24 rfl _ rfl t rfl ?_; refine Hid.out ?_)
  refine Lib.hid ?_
  intro g2 w2 hg2 hb haw
  replace HA := Lib.hid (HA.out.on haw); replace HB := Lib.hid (HB.out.on haw); have HC := Lib.hid hb
  clear hb haw
  go_wp2_with (refine wpList_boxD rfl _ rfl g dv rfl ?_; refine Hid.out ?_)
  refine Lib.hid ?_
  intro g3 w3 hg3 hb haw
  replace HA := Lib.hid (HA.out.on haw); replace HB := Lib.hid (HB.out.on haw); replace HC := Lib.hid (HC.out.on haw); have HD := Lib.hid hb
  clear hb haw
  go_wp2_with (first | (refine wpList_loadX rfl _ rfl g1 rfl s (by exact HB.out) HS.out ?_) | (refine wpList_loadX rfl _ rfl g2 rfl t (by exact HC.out) HT.out ?_))
  refine (K1.out _).mono ?_
  rintro E w4 ⟨rfl, haw⟩
  replace HA := Lib.hid (HA.out.on haw); replace HB := Lib.hid (HB.out.on haw); replace HC := Lib.hid (HC.out.on haw); replace HD := Lib.hid (HD.out.on haw)
  have hl1 := HB.out.lt; have hl2 := HC.out.lt; have hl3 := HD.out.lt
  clear haw K1
  have c0 := HD.out.c0; have c1 := HD.out.c1; have c2 := HD.out.c2; have c3 := HD.out.c3; have cv := HB.out.cell
  rw [hns] at c2
  have cv6 : (s.v == 6) = false := by simpa using h4 hns
  obtain ⟨da, dcap, hdv, hdc⟩ : ∃ a c, dv = .slice a g.d.length c ∧ g.d.length ≤ c := by obtain ⟨a, c, h, h2, _⟩ := HG.out.d; exact ⟨a, c, h, h2⟩
  subst hdv
  go_upto_region 3 with fail
  have HCL : Hid (Away [] w w4.drew ∧ BoxX w4.drew g1 s ∧ BoxX w4.drew g2 t ∧ BoxD w4.drew g3 g (.slice da g.d.length dcap)) := ⟨HA.out.drew, HB.out, HC.out, HD.out⟩
  have KR : Hid (∀ W, (Away [] w W ∧ BoxX W g1 s ∧ BoxX W g2 t ∧ BoxD W g3 g (.slice da g.d.length dcap)) → Calls Try.prog 42 #[.agg (csA s.v s.l)] W fun e w' => e = .returned (.int .i64 (roomP s.v)) ∧ (Away [] w w' ∧ BoxX w' g1 s ∧ BoxX w' g2 t ∧ BoxD w' g3 g (.slice da g.d.length dcap))) :=
    fun W h => (most_c s W).mono fun e w' k => ⟨k.1, h.1.on k.2, h.2.1.on k.2, h.2.2.1.on k.2, h.2.2.2.on k.2⟩
  refine wp_region_cls (C := fun w' => Away [] w w' ∧ BoxX w' g1 s ∧ BoxX w' g2 t ∧ BoxD w' g3 g (.slice da g.d.length dcap)) (by kernel_rfl) (by kernel_rfl) HCL.out ?_
  go_big_quiet_want; (refine quiet_val ?_ ?_ ?_; rotate_left; (intro w; go_simp; rfl); go_simp; go_big_quiet_on)
  go_big_quiet_want; refine quiet_ld _ rfl (ad := ⟨g3, 3, none⟩) rfl (fun w' h => ldB h.2.2.2.c3) ?_; go_simp; go_big_quiet_on
  go_big_quiet_want; (refine quiet_val ?_ ?_ ?_; rotate_left; (intro w; go_simp; rfl); go_simp; go_big_quiet_on)
  go_big_quiet_want; refine quiet_ld _ rfl (ad := ⟨g1, 0, none⟩) rfl (fun w' h => load24_run h.2.1 HS.out) ?_; go_simp; go_big_quiet_on
  go_big_quiet_want; refine quiet_call 42 #[.agg (csA s.v s.l)] (.int .i64 (roomP s.v)) ?_ KR.out ?_
  · intro w; go_simp; done
  go_simp; go_big_quiet_on
  go_big_quiet_want; (refine quiet_val ?_ ?_ ?_; rotate_left; (intro w; go_simp; rfl); go_simp; go_big_quiet_on)
  refine wpQuiet_nil ?_
  intro V hV
  replace HA := Lib.hid hV.1; replace HB := Lib.hid hV.2.1; replace HC := Lib.hid hV.2.2.1; replace HD := Lib.hid hV.2.2.2
  clear hV KR HCL c0 c1 c2 c3 cv hl1 hl2 hl3
  have hl1 := HB.out.lt; have hl2 := HC.out.lt; have hl3 := HD.out.lt
  have c0 := HD.out.c0; have c1 := HD.out.c1; have c2 := HD.out.c2; have c3 := HD.out.c3; have cv := HB.out.cell
  rw [hns] at c2
  obtain ⟨rm0, rm1⟩ := room_bd s.v
  generalize roomP s.v = rm at *
  go_wp2_with fail
  go_ret2
  exact BuildOut.no 3 HA.out
theorem rbuild_long_false (s t : Ax) (g : Dg) (dv : Value) (w : World) (hs : WfA s) (ht : WfA t) (hg : Dat w g dv) (hz : pairP s t = true) (a0 : 0 ≤ g.sp) (a1 : g.sp ≤ 65535) (b0 : 0 ≤ g.dp) (b1 : g.dp ≤ 65535) (h4 : g.ns = true → s.v ≠ 6) (hns : g.ns = false) (hr : roomP s.v < g.d.length) :
    Calls Try.prog 22 #[.agg (csA s.v s.l), .agg (csA t.v t.l), .agg (csD g dv)] w fun E w' => BuildOut w ([], 3) E w' := by
  have K1 : Hid (∀ w, Calls Try.prog 39 #[.agg (csA s.v s.l), .agg (csA t.v t.l)] w fun e w' => e = .returned (.bool true) ∧ Away [] w w') := fun w => by rw [← hz]; exact rpair_c s t w hs ht
  have HS := Lib.hid hs
  have HT := Lib.hid ht
  have HG := Lib.hid hg
  clear hs ht hg hz
  go_enter Try.func22, Try.ntmps22
  go_wp2_with (refine wpList_box24 rfl _ rfl s rfl ?_; refine Hid.out ?_)
  refine Lib.hid ?_
  intro g1 w1 hg1 hb haw
  have HA := Lib.hid haw; have HB := Lib.hid hb
  clear hb haw
  go_wp2_with (refine wpList_box24 rfl _ rfl t rfl ?_; refine Hid.out ?_)
  refine Lib.hid ?_
  intro g2 w2 hg2 hb haw
  replace HA := Lib.hid (HA.out.on haw); replace HB := Lib.hid (HB.out.on haw); have HC := Lib.hid hb
  clear hb haw
  go_wp2_with (refine wpList_boxD rfl _ rfl g dv rfl ?_; refine Hid.out ?_)
  refine Lib.hid ?_
  intro g3 w3 hg3 hb haw
  replace HA := Lib.hid (HA.out.on haw); replace HB := Lib.hid (HB.out.on haw); replace HC := Lib.hid (HC.out.on haw); have HD := Lib.hid hb
  clear hb haw
  go_wp2_with (first | (refine wpList_loadX rfl _ rfl g1 rfl s (by exact HB.out) HS.out ?_) | (refine wpList_loadX rfl _ rfl g2 rfl t (by exact HC.out) HT.out ?_))
  refine (K1.out _).mono ?_
  rintro E w4 ⟨rfl, haw⟩
  replace HA := Lib.hid (HA.out.on haw); replace HB := Lib.hid (HB.out.on haw); replace HC := Lib.hid (HC.out.on haw); replace HD := Lib.hid (HD.out.on haw)
  have hl1 := HB.out.lt; have hl2 := HC.out.lt; have hl3 := HD.out.lt
  clear haw K1
  have c0 := HD.out.c0; have c1 := HD.out.c1; have c2 := HD.out.c2; have c3 := HD.out.c3; have cv := HB.out.cell
  rw [hns] at c2
  obtain ⟨da, dcap, hdv, hdc⟩ : ∃ a c, dv = .slice a g.d.length c ∧ g.d.length ≤ c := by obtain ⟨a, c, h, h2, _⟩ := HG.out.d; exact ⟨a, c, h, h2⟩
  subst hdv
  go_upto_region 3 with fail
  have HCL : Hid (Away [] w w4.drew ∧ BoxX w4.drew g1 s ∧ BoxX w4.drew g2 t ∧ BoxD w4.drew g3 g (.slice da g.d.length dcap)) := ⟨HA.out.drew, HB.out, HC.out, HD.out⟩
  have KR : Hid (∀ W, (Away [] w W ∧ BoxX W g1 s ∧ BoxX W g2 t ∧ BoxD W g3 g (.slice da g.d.length dcap)) → Calls Try.prog 42 #[.agg (csA s.v s.l)] W fun e w' => e = .returned (.int .i64 (roomP s.v)) ∧ (Away [] w w' ∧ BoxX w' g1 s ∧ BoxX w' g2 t ∧ BoxD w' g3 g (.slice da g.d.length dcap))) :=
    fun W h => (most_c s W).mono fun e w' k => ⟨k.1, h.1.on k.2, h.2.1.on k.2, h.2.2.1.on k.2, h.2.2.2.on k.2⟩
  refine wp_region_cls (C := fun w' => Away [] w w' ∧ BoxX w' g1 s ∧ BoxX w' g2 t ∧ BoxD w' g3 g (.slice da g.d.length dcap)) (by kernel_rfl) (by kernel_rfl) HCL.out ?_
  go_big_quiet_want; (refine quiet_val ?_ ?_ ?_; rotate_left; (intro w; go_simp; rfl); go_simp; go_big_quiet_on)
  go_big_quiet_want; refine quiet_ld _ rfl (ad := ⟨g3, 3, none⟩) rfl (fun w' h => ldB h.2.2.2.c3) ?_; go_simp; go_big_quiet_on
  go_big_quiet_want; (refine quiet_val ?_ ?_ ?_; rotate_left; (intro w; go_simp; rfl); go_simp; go_big_quiet_on)
  go_big_quiet_want; refine quiet_ld _ rfl (ad := ⟨g1, 0, none⟩) rfl (fun w' h => load24_run h.2.1 HS.out) ?_; go_simp; go_big_quiet_on
  go_big_quiet_want; refine quiet_call 42 #[.agg (csA s.v s.l)] (.int .i64 (roomP s.v)) ?_ KR.out ?_
  · intro w; go_simp; done
  go_simp; go_big_quiet_on
  go_big_quiet_want; (refine quiet_val ?_ ?_ ?_; rotate_left; (intro w; go_simp; rfl); go_simp; go_big_quiet_on)
  refine wpQuiet_nil ?_
  intro V hV
  replace HA := Lib.hid hV.1; replace HB := Lib.hid hV.2.1; replace HC := Lib.hid hV.2.2.1; replace HD := Lib.hid hV.2.2.2
  clear hV KR HCL c0 c1 c2 c3 cv hl1 hl2 hl3
  have hl1 := HB.out.lt; have hl2 := HC.out.lt; have hl3 := HD.out.lt
  have c0 := HD.out.c0; have c1 := HD.out.c1; have c2 := HD.out.c2; have c3 := HD.out.c3; have cv := HB.out.cell
  rw [hns] at c2
  obtain ⟨rm0, rm1⟩ := room_bd s.v
  generalize roomP s.v = rm at *
  go_wp2_with fail
  go_ret2
  exact BuildOut.no 3 HA.out
theorem rbuild_yes_true (s t : Ax) (g : Dg) (dv : Value) (w : World) (hs : WfA s) (ht : WfA t) (hg : Dat w g dv) (hz : pairP s t = true) (a0 : 0 ≤ g.sp) (a1 : g.sp ≤ 65535) (b0 : 0 ≤ g.dp) (b1 : g.dp ≤ 65535) (h4 : g.ns = true → s.v ≠ 6) (hns : g.ns = true) (hr : (g.d.length : Int) ≤ roomP s.v) :
    Calls Try.prog 22 #[.agg (csA s.v s.l), .agg (csA t.v t.l), .agg (csD g dv)] w fun E w' => BuildOut w (outP s t g, 0) E w' := by
  have K1 : Hid (∀ w, Calls Try.prog 39 #[.agg (csA s.v s.l), .agg (csA t.v t.l)] w fun e w' => e = .returned (.bool true) ∧ Away [] w w') := fun w => by rw [← hz]; exact rpair_c s t w hs ht
  have HS := Lib.hid hs
  have HT := Lib.hid ht
  have HG := Lib.hid hg
  clear hs ht hg hz
  go_enter Try.func22, Try.ntmps22
  go_wp2_with (refine wpList_box24 rfl _ rfl s rfl ?_; refine Hid.out ?_)
  refine Lib.hid ?_
  intro g1 w1 hg1 hb haw
  have HA := Lib.hid haw; have HB := Lib.hid hb
  clear hb haw
  go_wp2_with (refine wpList_box24 rfl _ rfl t rfl ?_; refine Hid.out ?_)
  refine Lib.hid ?_
  intro g2 w2 hg2 hb haw
  replace HA := Lib.hid (HA.out.on haw); replace HB := Lib.hid (HB.out.on haw); have HC := Lib.hid hb
  clear hb haw
  go_wp2_with (refine wpList_boxD rfl _ rfl g dv rfl ?_; refine Hid.out ?_)
  refine Lib.hid ?_
  intro g3 w3 hg3 hb haw
  replace HA := Lib.hid (HA.out.on haw); replace HB := Lib.hid (HB.out.on haw); replace HC := Lib.hid (HC.out.on haw); have HD := Lib.hid hb
  clear hb haw
  go_wp2_with (first | (refine wpList_loadX rfl _ rfl g1 rfl s (by exact HB.out) HS.out ?_) | (refine wpList_loadX rfl _ rfl g2 rfl t (by exact HC.out) HT.out ?_))
  refine (K1.out _).mono ?_
  rintro E w4 ⟨rfl, haw⟩
  replace HA := Lib.hid (HA.out.on haw); replace HB := Lib.hid (HB.out.on haw); replace HC := Lib.hid (HC.out.on haw); replace HD := Lib.hid (HD.out.on haw)
  have hl1 := HB.out.lt; have hl2 := HC.out.lt; have hl3 := HD.out.lt
  clear haw K1
  have c0 := HD.out.c0; have c1 := HD.out.c1; have c2 := HD.out.c2; have c3 := HD.out.c3; have cv := HB.out.cell
  rw [hns] at c2
  have cv6 : (s.v == 6) = false := by simpa using h4 hns
  obtain ⟨da, dcap, hdv, hdc⟩ : ∃ a c, dv = .slice a g.d.length c ∧ g.d.length ≤ c := by obtain ⟨a, c, h, h2, _⟩ := HG.out.d; exact ⟨a, c, h, h2⟩
  subst hdv
  go_upto_region 3 with fail
  have HCL : Hid (Away [] w w4.drew ∧ BoxX w4.drew g1 s ∧ BoxX w4.drew g2 t ∧ BoxD w4.drew g3 g (.slice da g.d.length dcap)) := ⟨HA.out.drew, HB.out, HC.out, HD.out⟩
  have KR : Hid (∀ W, (Away [] w W ∧ BoxX W g1 s ∧ BoxX W g2 t ∧ BoxD W g3 g (.slice da g.d.length dcap)) → Calls Try.prog 42 #[.agg (csA s.v s.l)] W fun e w' => e = .returned (.int .i64 (roomP s.v)) ∧ (Away [] w w' ∧ BoxX w' g1 s ∧ BoxX w' g2 t ∧ BoxD w' g3 g (.slice da g.d.length dcap))) :=
    fun W h => (most_c s W).mono fun e w' k => ⟨k.1, h.1.on k.2, h.2.1.on k.2, h.2.2.1.on k.2, h.2.2.2.on k.2⟩
  refine wp_region_cls (C := fun w' => Away [] w w' ∧ BoxX w' g1 s ∧ BoxX w' g2 t ∧ BoxD w' g3 g (.slice da g.d.length dcap)) (by kernel_rfl) (by kernel_rfl) HCL.out ?_
  go_big_quiet_want; (refine quiet_val ?_ ?_ ?_; rotate_left; (intro w; go_simp; rfl); go_simp; go_big_quiet_on)
  go_big_quiet_want; refine quiet_ld _ rfl (ad := ⟨g3, 3, none⟩) rfl (fun w' h => ldB h.2.2.2.c3) ?_; go_simp; go_big_quiet_on
  go_big_quiet_want; (refine quiet_val ?_ ?_ ?_; rotate_left; (intro w; go_simp; rfl); go_simp; go_big_quiet_on)
  go_big_quiet_want; refine quiet_ld _ rfl (ad := ⟨g1, 0, none⟩) rfl (fun w' h => load24_run h.2.1 HS.out) ?_; go_simp; go_big_quiet_on
  go_big_quiet_want; refine quiet_call 42 #[.agg (csA s.v s.l)] (.int .i64 (roomP s.v)) ?_ KR.out ?_
  · intro w; go_simp; done
  go_simp; go_big_quiet_on
  go_big_quiet_want; (refine quiet_val ?_ ?_ ?_; rotate_left; (intro w; go_simp; rfl); go_simp; go_big_quiet_on)
  refine wpQuiet_nil ?_
  intro V hV
  replace HA := Lib.hid hV.1; replace HB := Lib.hid hV.2.1; replace HC := Lib.hid hV.2.2.1; replace HD := Lib.hid hV.2.2.2
  clear hV KR HCL c0 c1 c2 c3 cv hl1 hl2 hl3
  have hl1 := HB.out.lt; have hl2 := HC.out.lt; have hl3 := HD.out.lt
  have c0 := HD.out.c0; have c1 := HD.out.c1; have c2 := HD.out.c2; have c3 := HD.out.c3; have cv := HB.out.cell
  rw [hns] at c2
  obtain ⟨rm0, rm1⟩ := room_bd s.v
  generalize roomP s.v = rm at *
  have hlit := (Away.refl [] V).alloc (.cells (([g.sp / 256, g.sp % 256, g.dp / 256, g.dp % 256, (8 + (g.d.length : Int)) / 256, (8 + (g.d.length : Int)) % 256, 0, 0] : List Int).map (Value.int .u8)).toArray 5)
  have hown0 : Owns (V.alloc (.cells (([g.sp / 256, g.sp % 256, g.dp / 256, g.dp % 256, (8 + (g.d.length : Int)) / 256, (8 + (g.d.length : Int)) % 256, 0, 0] : List Int).map (Value.int .u8)).toArray 5)) (.slice (some ⟨V.heap.size, 0, none⟩) 8 8) [g.sp / 256, g.sp % 256, g.dp / 256, g.dp % 256, (8 + (g.d.length : Int)) / 256, (8 + (g.d.length : Int)) % 256, 0, 0] := World.ownsRow_lit V ((([g.sp / 256, g.sp % 256, g.dp / 256, g.dp % 256, (8 + (g.d.length : Int)) / 256, (8 + (g.d.length : Int)) % 256, 0, 0] : List Int).map (Value.int .u8)).toArray) 8 (Nat.zero_le _) (by decide) rfl
  have HG0 : Hid (Gr w (V.alloc (.cells (([g.sp / 256, g.sp % 256, g.dp / 256, g.dp % 256, (8 + (g.d.length : Int)) / 256, (8 + (g.d.length : Int)) % 256, 0, 0] : List Int).map (Value.int .u8)).toArray 5)) [g1, g2, g3] (.slice (some ⟨V.heap.size, 0, none⟩) 8 8) [g.sp / 256, g.sp % 256, g.dp / 256, g.dp % 256, (8 + (g.d.length : Int)) / 256, (8 + (g.d.length : Int)) % 256, 0, 0]) :=
    ⟨HA.out.on hlit, hown0, fun k hk => by have := HA.out.size; simp [Value.ownBlock] at hk; omega, fun k hk => ⟨fun e => by simp [Value.ownBlock] at e; simp at hk; omega, by simp at hk; simp; omega⟩⟩
  replace HB := Lib.hid (HB.out.on hlit); replace HC := Lib.hid (HC.out.on hlit); replace HD := Lib.hid (HD.out.on hlit)
  have c3b := HD.out.c3
  clear hlit hown0
  go_wp2_with (at_builtin; refine wpList_appS rfl _ _ rfl _ _ g.d rfl (by exact HG0.out.own) _ rfl (by exact HG.out.d.on HG0.out.aw) (by (try simp only [List.length_cons]); (try simp only [List.length_nil]); omega) ?_; refine Hid.out ?_)
  refine Lib.hid ?_
  intro bv w5 hown hawx hmv
  obtain ⟨hg', hkeep⟩ := HG0.out.step hown hawx hmv
  have HGR : Hid (Gr w w5 [g1, g2, g3] bv (rawP g)) := hg'
  replace HB : Hid (BoxX w5 g1 s) := (hkeep g1 (by simp)).trans HB.out
  replace HC : Hid (BoxX w5 g2 t) := (hkeep g2 (by simp)).trans HC.out
  replace HD : Hid (BoxD w5 g3 g (.slice da g.d.length dcap)) := (hkeep g3 (by simp)).trans HD.out
  clear hown hawx hmv hg' hkeep HG0 c0 c1 c2 c3 c3b cv HA
  have c2 := HD.out.c2
  rw [hns] at c2
  obtain ⟨ba, bc, hbv, hbn, hbc⟩ := HGR.out.own.slc0
  subst hbv
  go_wp2_with fail
  go_ret2
  exact ⟨_, rfl, by unfold outP; rw [if_pos hns]; exact HGR.out.own, HGR.out.new, HGR.out.aw⟩
theorem rbuild_yes_false (s t : Ax) (g : Dg) (dv : Value) (w : World) (hs : WfA s) (ht : WfA t) (hg : Dat w g dv) (hz : pairP s t = true) (a0 : 0 ≤ g.sp) (a1 : g.sp ≤ 65535) (b0 : 0 ≤ g.dp) (b1 : g.dp ≤ 65535) (h4 : g.ns = true → s.v ≠ 6) (hns : g.ns = false) (hr : (g.d.length : Int) ≤ roomP s.v) :
    Calls Try.prog 22 #[.agg (csA s.v s.l), .agg (csA t.v t.l), .agg (csD g dv)] w fun E w' => BuildOut w (outP s t g, 0) E w' := by
  have K1 : Hid (∀ w, Calls Try.prog 39 #[.agg (csA s.v s.l), .agg (csA t.v t.l)] w fun e w' => e = .returned (.bool true) ∧ Away [] w w') := fun w => by rw [← hz]; exact rpair_c s t w hs ht
  have HS := Lib.hid hs
  have HT := Lib.hid ht
  have HG := Lib.hid hg
  have HF : Hid (Fit s.v g) := ⟨a0, a1, b0, b1, hr, fun _ => hns, hg.wf.d⟩
  have hrm0 := room_bd s.v
  have HRL := Lib.hid (raw_len g)
  have HRB := Lib.hid (raw_bytes HF.out)
  have hl16 : (rawP g).length ≤ 65535 := by rw [raw_len]; omega
  have HCK : Hid (ckP s t (rawP g) = pt (psb s t 17 (8 + (g.d.length : Int)) ++ rawP g)) := by
    have := ck_pt hs ht HRB.out hl16
    rw [raw_len] at this
    rw [show (8 + (g.d.length : Int)) = ((8 + g.d.length : Nat) : Int) by omega]
    exact this
  have hckb := ck_bd hs ht HRB.out hl16
  have HPB : Hid (Bytes (psb s t 17 (8 + (g.d.length : Int)))) := psb_bytes hs ht (by omega) (by omega) (by omega) (by omega)
  have HPL := Lib.hid (psb_len hs ht 17 (8 + (g.d.length : Int)))
  have HSM : Hid (smP s t (rawP g) = if 65535 - ckP s t (rawP g) = 0 then 65535 else 65535 - ckP s t (rawP g)) := rfl
  have HLY : Hid (layP s t g = ((rawP g).set 6 (smP s t (rawP g) / 256)).set 7 (smP s t (rawP g) % 256)) := rfl
  generalize ckP s t (rawP g) = ck at *
  generalize smP s t (rawP g) = x at *
  obtain ⟨ck0, ck1⟩ := hckb
  clear hrm0 hl16
  clear hs ht hg hz
  go_enter Try.func22, Try.ntmps22
  go_wp2_with (refine wpList_box24 rfl _ rfl s rfl ?_; refine Hid.out ?_)
  refine Lib.hid ?_
  intro g1 w1 hg1 hb haw
  have HA := Lib.hid haw; have HB := Lib.hid hb
  clear hb haw
  go_wp2_with (refine wpList_box24 rfl _ rfl t rfl ?_; refine Hid.out ?_)
  refine Lib.hid ?_
  intro g2 w2 hg2 hb haw
  replace HA := Lib.hid (HA.out.on haw); replace HB := Lib.hid (HB.out.on haw); have HC := Lib.hid hb
  clear hb haw
  go_wp2_with (refine wpList_boxD rfl _ rfl g dv rfl ?_; refine Hid.out ?_)
  refine Lib.hid ?_
  intro g3 w3 hg3 hb haw
  replace HA := Lib.hid (HA.out.on haw); replace HB := Lib.hid (HB.out.on haw); replace HC := Lib.hid (HC.out.on haw); have HD := Lib.hid hb
  clear hb haw
  go_wp2_with (first | (refine wpList_loadX rfl _ rfl g1 rfl s (by exact HB.out) HS.out ?_) | (refine wpList_loadX rfl _ rfl g2 rfl t (by exact HC.out) HT.out ?_))
  refine (K1.out _).mono ?_
  rintro E w4 ⟨rfl, haw⟩
  replace HA := Lib.hid (HA.out.on haw); replace HB := Lib.hid (HB.out.on haw); replace HC := Lib.hid (HC.out.on haw); replace HD := Lib.hid (HD.out.on haw)
  have hl1 := HB.out.lt; have hl2 := HC.out.lt; have hl3 := HD.out.lt
  clear haw K1
  have c0 := HD.out.c0; have c1 := HD.out.c1; have c2 := HD.out.c2; have c3 := HD.out.c3; have cv := HB.out.cell
  rw [hns] at c2
  obtain ⟨da, dcap, hdv, hdc⟩ : ∃ a c, dv = .slice a g.d.length c ∧ g.d.length ≤ c := by obtain ⟨a, c, h, h2, _⟩ := HG.out.d; exact ⟨a, c, h, h2⟩
  subst hdv
  go_upto_region 3 with fail
  have HCL : Hid (Away [] w w4.drew ∧ BoxX w4.drew g1 s ∧ BoxX w4.drew g2 t ∧ BoxD w4.drew g3 g (.slice da g.d.length dcap)) := ⟨HA.out.drew, HB.out, HC.out, HD.out⟩
  have KR : Hid (∀ W, (Away [] w W ∧ BoxX W g1 s ∧ BoxX W g2 t ∧ BoxD W g3 g (.slice da g.d.length dcap)) → Calls Try.prog 42 #[.agg (csA s.v s.l)] W fun e w' => e = .returned (.int .i64 (roomP s.v)) ∧ (Away [] w w' ∧ BoxX w' g1 s ∧ BoxX w' g2 t ∧ BoxD w' g3 g (.slice da g.d.length dcap))) :=
    fun W h => (most_c s W).mono fun e w' k => ⟨k.1, h.1.on k.2, h.2.1.on k.2, h.2.2.1.on k.2, h.2.2.2.on k.2⟩
  refine wp_region_cls (C := fun w' => Away [] w w' ∧ BoxX w' g1 s ∧ BoxX w' g2 t ∧ BoxD w' g3 g (.slice da g.d.length dcap)) (by kernel_rfl) (by kernel_rfl) HCL.out ?_
  go_big_quiet_want; (refine quiet_val ?_ ?_ ?_; rotate_left; (intro w; go_simp; rfl); go_simp; go_big_quiet_on)
  go_big_quiet_want; refine quiet_ld _ rfl (ad := ⟨g3, 3, none⟩) rfl (fun w' h => ldB h.2.2.2.c3) ?_; go_simp; go_big_quiet_on
  go_big_quiet_want; (refine quiet_val ?_ ?_ ?_; rotate_left; (intro w; go_simp; rfl); go_simp; go_big_quiet_on)
  go_big_quiet_want; refine quiet_ld _ rfl (ad := ⟨g1, 0, none⟩) rfl (fun w' h => load24_run h.2.1 HS.out) ?_; go_simp; go_big_quiet_on
  go_big_quiet_want; refine quiet_call 42 #[.agg (csA s.v s.l)] (.int .i64 (roomP s.v)) ?_ KR.out ?_
  · intro w; go_simp; done
  go_simp; go_big_quiet_on
  go_big_quiet_want; (refine quiet_val ?_ ?_ ?_; rotate_left; (intro w; go_simp; rfl); go_simp; go_big_quiet_on)
  refine wpQuiet_nil ?_
  intro V hV
  replace HA := Lib.hid hV.1; replace HB := Lib.hid hV.2.1; replace HC := Lib.hid hV.2.2.1; replace HD := Lib.hid hV.2.2.2
  clear hV KR HCL c0 c1 c2 c3 cv hl1 hl2 hl3
  have hl1 := HB.out.lt; have hl2 := HC.out.lt; have hl3 := HD.out.lt
  have c0 := HD.out.c0; have c1 := HD.out.c1; have c2 := HD.out.c2; have c3 := HD.out.c3; have cv := HB.out.cell
  rw [hns] at c2
  obtain ⟨rm0, rm1⟩ := room_bd s.v
  generalize roomP s.v = rm at *
  have hlit := (Away.refl [] V).alloc (.cells (([g.sp / 256, g.sp % 256, g.dp / 256, g.dp % 256, (8 + (g.d.length : Int)) / 256, (8 + (g.d.length : Int)) % 256, 0, 0] : List Int).map (Value.int .u8)).toArray 5)
  have hown0 : Owns (V.alloc (.cells (([g.sp / 256, g.sp % 256, g.dp / 256, g.dp % 256, (8 + (g.d.length : Int)) / 256, (8 + (g.d.length : Int)) % 256, 0, 0] : List Int).map (Value.int .u8)).toArray 5)) (.slice (some ⟨V.heap.size, 0, none⟩) 8 8) [g.sp / 256, g.sp % 256, g.dp / 256, g.dp % 256, (8 + (g.d.length : Int)) / 256, (8 + (g.d.length : Int)) % 256, 0, 0] := World.ownsRow_lit V ((([g.sp / 256, g.sp % 256, g.dp / 256, g.dp % 256, (8 + (g.d.length : Int)) / 256, (8 + (g.d.length : Int)) % 256, 0, 0] : List Int).map (Value.int .u8)).toArray) 8 (Nat.zero_le _) (by decide) rfl
  have HG0 : Hid (Gr w (V.alloc (.cells (([g.sp / 256, g.sp % 256, g.dp / 256, g.dp % 256, (8 + (g.d.length : Int)) / 256, (8 + (g.d.length : Int)) % 256, 0, 0] : List Int).map (Value.int .u8)).toArray 5)) [g1, g2, g3] (.slice (some ⟨V.heap.size, 0, none⟩) 8 8) [g.sp / 256, g.sp % 256, g.dp / 256, g.dp % 256, (8 + (g.d.length : Int)) / 256, (8 + (g.d.length : Int)) % 256, 0, 0]) :=
    ⟨HA.out.on hlit, hown0, fun k hk => by have := HA.out.size; simp [Value.ownBlock] at hk; omega, fun k hk => ⟨fun e => by simp [Value.ownBlock] at e; simp at hk; omega, by simp at hk; simp; omega⟩⟩
  replace HB := Lib.hid (HB.out.on hlit); replace HC := Lib.hid (HC.out.on hlit); replace HD := Lib.hid (HD.out.on hlit)
  have c3b := HD.out.c3
  clear hlit hown0
  go_wp2_with (at_builtin; refine wpList_appS rfl _ _ rfl _ _ g.d rfl (by exact HG0.out.own) _ rfl (by exact HG.out.d.on HG0.out.aw) (by (try simp only [List.length_cons]); (try simp only [List.length_nil]); omega) ?_; refine Hid.out ?_)
  refine Lib.hid ?_
  intro bv w5 hown hawx hmv
  obtain ⟨hg', hkeep⟩ := HG0.out.step hown hawx hmv
  have HGR : Hid (Gr w w5 [g1, g2, g3] bv (rawP g)) := hg'
  replace HB : Hid (BoxX w5 g1 s) := (hkeep g1 (by simp)).trans HB.out
  replace HC : Hid (BoxX w5 g2 t) := (hkeep g2 (by simp)).trans HC.out
  replace HD : Hid (BoxD w5 g3 g (.slice da g.d.length dcap)) := (hkeep g3 (by simp)).trans HD.out
  clear hown hawx hmv hg' hkeep HG0 c0 c1 c2 c3 c3b cv HA
  have c2 := HD.out.c2
  rw [hns] at c2
  obtain ⟨ba, bc, hbv, hbn, hbc⟩ := HGR.out.own.slc0
  subst hbv
  have HA5 : Hid (w.heap.size ≤ w5.heap.size) := HGR.out.aw.size
  go_wp2_with (first | (refine wpList_loadX rfl _ rfl g1 rfl s (by exact HB.out) HS.out ?_) | (refine wpList_loadX rfl _ rfl g2 rfl t (by exact HC.out) HT.out ?_))
  refine (rhead_c s t 17 (8 + (g.d.length : Int)) _ HS.out HT.out (by omega) (by omega) (by omega) (by omega)).mono ?_
  rintro E w6 ⟨hv, rfl, hown, hnew, haw⟩
  have HH : Hid (Gr w5 w6 [] hv (psb s t 17 (8 + (g.d.length : Int)))) := ⟨haw, hown, hnew, by simp⟩
  have HG6 := Lib.hid (HGR.out.on haw)
  have hap : ∀ k, hv.ownBlock = some k → (Value.slice ba (rawP g).length bc).ownBlock ≠ some k := fun k hk e => by
    have h1 := hnew k hk
    have h2 := HGR.out.own.lt k e
    omega
  have HAP := Lib.hid hap
  clear hown hnew haw hap HGR HB HC HD c2
  go_wp2_with (at_builtin; refine wpList_appS rfl _ _ rfl _ _ (rawP g) rfl (by exact HH.out.own) _ rfl (by exact HG6.out.own.sl HRB.out (by have := HRL.out; omega)) (by have h1 := HRL.out; have h2 := HPL.out; split at h2 <;> omega) ?_; refine Hid.out ?_)
  refine Lib.hid ?_
  intro sv w7 hown hawx hmv
  have HSO := Lib.hid hown
  have HG7 : Hid (Owns w7 (.slice ba (rawP g).length bc) (rawP g)) := HG6.out.own.away hawx (fun k hk hx => HAP.out k (by simpa using hx) hk)
  have HA7 : Hid (Away [] w w7) := HG6.out.aw.next hawx (fun x hx => .inr (by have h1 := HH.out.new x (by simpa using hx); have h2 := HA5.out; omega))
  have HNW := Lib.hid HG6.out.new
  clear hown hawx hmv HH HG6 HAP
  obtain ⟨sa, sc, hsv, hsn, hsc, hsr, _⟩ := HSO.out.row (by rw [List.length_append]; have h1 := HRL.out; have h2 := HPL.out; split at h2 <;> omega) (HPB.out.app HRB.out)
  subst hsv
  have HSR := Lib.hid hsr
  clear hsr HSO
  go_wp2_with fail
  refine (rof_at sa (psb s t 17 (8 + (g.d.length : Int)) ++ rawP g) _ sc _ (by first | exact List.length_append | with_reducible rfl) (by exact HSR.out)).mono ?_
  rw [← HCK.out]
  rintro E w7 ⟨rfl, rfl⟩
  obtain ⟨b, c, hb2, hb3⟩ := HG7.out.block (fun e => by have := HRL.out; rw [e] at this; simp at this; omega)
  simp only [Value.slice.injEq] at hb2
  obtain ⟨rfl, -, rfl⟩ := hb2
  have hlen8 : 8 ≤ (rawP g).length := by have := HRL.out; omega
  obtain ⟨d6, f6⟩ := HG7.out.cells 6 (by omega)
  obtain ⟨d7, f7⟩ := HG7.out.cells 7 (by omega)
  have i6 : (6 : Int) < ((rawP g).length : Int) := by omega
  have i7 : (7 : Int) < ((rawP g).length : Int) := by omega
  by_cases hc : 65535 - ck = 0
  · obtain rfl : x = 65535 := by rw [HSM.out, if_pos hc]
    have hc' : ck = 65535 := by omega
    subst hc'
    go_wp2_with fail
    go_ret2
    have hset := (HG7.out.set rfl 6 (65535 / 256)).set (by simp) 7 (65535 % 256)
    have haw := ((Away.refl [b] w7).setCell (p := ⟨b, 6, none⟩) (.inl (by simp)) (.int .u8 (65535 / 256))).setCell (p := ⟨b, 7, none⟩) (.inl (by simp)) (.int .u8 (65535 % 256))
    refine ⟨_, rfl, ?_, HNW.out, HA7.out.next haw (fun k hk => .inr (HNW.out k (by simp at hk; rw [hk]; rfl)))⟩
    unfold outP
    rw [if_neg (by rw [hns]; simp), HLY.out]
    exact hset
  · have hx : x = 65535 - ck := by rw [HSM.out, if_neg hc]
    have HXE := Lib.hid hx
    have hc2 : (65535 - ck == 0) = false := by simpa using hc
    have hc3 : 0 < 65535 - ck := by omega
    rw [hx] at HLY
    clear hx
    go_wp2_with fail
    go_ret2
    have hset := (HG7.out.set rfl 6 ((65535 - ck) / 256)).set (by simp) 7 ((65535 - ck) % 256)
    have haw := ((Away.refl [b] w7).setCell (p := ⟨b, 6, none⟩) (.inl (by simp)) (.int .u8 ((65535 - ck) / 256))).setCell (p := ⟨b, 7, none⟩) (.inl (by simp)) (.int .u8 ((65535 - ck) % 256))
    refine ⟨_, rfl, ?_, HNW.out, HA7.out.next haw (fun k hk => .inr (HNW.out k (by simp at hk; rw [hk]; rfl)))⟩
    unfold outP
    rw [if_neg (by rw [hns]; simp), HLY.out]
    exact hset
theorem rbuild_c (s t : Ax) (g : Dg) (dv : Value) (w : World) (hs : WfA s) (ht : WfA t) (hg : Dat w g dv) :
    Calls Try.prog 22 #[.agg (csA s.v s.l), .agg (csA t.v t.l), .agg (csD g dv)] w fun E w' => BuildOut w (buildP s t g) E w' := by
  unfold buildP
  cases hz : pairP s t
  · rw [if_neg (by simp [bdOk, hz])]; exact rbuild_no1 s t g dv w hs ht hg hz
  · by_cases a0 : 0 ≤ g.sp
    · by_cases a1 : g.sp ≤ 65535
      · by_cases b0 : 0 ≤ g.dp
        · by_cases b1 : g.dp ≤ 65535
          · by_cases h46 : g.ns = true ∧ s.v = 6
            · rw [if_neg (by simp [bdOk, h46.1, h46.2])]; exact rbuild_no6 s t g dv w hs ht hg hz a0 a1 b0 b1 h46.1 h46.2
            · have h4 : g.ns = true → s.v ≠ 6 := fun h k => h46 ⟨h, k⟩
              rw [if_pos (bd_iff.2 ⟨hz, ⟨a0, a1⟩, ⟨b0, b1⟩, fun h => by cases hns : g.ns; rfl; exact absurd h (h4 hns)⟩)]
              by_cases hr : (g.d.length : Int) ≤ roomP s.v
              · rw [if_pos hr]
                cases hns : g.ns
                · exact rbuild_yes_false s t g dv w hs ht hg hz a0 a1 b0 b1 h4 hns hr
                · exact rbuild_yes_true s t g dv w hs ht hg hz a0 a1 b0 b1 h4 hns hr
              · rw [if_neg hr]
                cases hns : g.ns
                · exact rbuild_long_false s t g dv w hs ht hg hz a0 a1 b0 b1 h4 hns (by omega)
                · exact rbuild_long_true s t g dv w hs ht hg hz a0 a1 b0 b1 h4 hns (by omega)
          · rw [if_neg (by simp [bdOk, wordP, b1])]; exact rbuild_no5 s t g dv w hs ht hg hz a0 a1 b0 (by omega)
        · rw [if_neg (by simp [bdOk, wordP, b0])]; exact rbuild_no4 s t g dv w hs ht hg hz a0 a1 (by omega)
      · rw [if_neg (by simp [bdOk, wordP, a1])]; exact rbuild_no3 s t g dv w hs ht hg hz a0 (by omega)
    · rw [if_neg (by simp [bdOk, wordP, a0])]; exact rbuild_no2 s t g dv w hs ht hg hz (by omega)
#print axioms rbuild_c
end Go.Proofs.Ytbfpphoiapggnaa
