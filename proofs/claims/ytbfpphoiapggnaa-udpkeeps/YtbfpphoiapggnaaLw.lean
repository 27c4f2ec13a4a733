/-
  sameDgram and known of the laws.
-/
import Derived.Test.YtbfpphoiapggnaaBp
import Derived.Test.YtbfpphoiapggnaaPp
import Derived.Test.YtbfpphoiapggnaaSame
namespace Go.Proofs.Ytbfpphoiapggnaa
open Go.ChangeShapes Go.WideShapes Go.ChangeAt Go.RowKit Num
set_option linter.unusedVariables false
set_option maxHeartbeats 4000000
set_option maxRecDepth 100000

theorem Owns.slc {w : World} {v : Value} {l : List Int} (h : Owns w v l) : ∃ a c, v = .slice a l.length c ∧ (a = none → c = 0) ∧ l.length ≤ c := by
  rcases h.2 with ⟨rfl, h0⟩ | ⟨g, cap, cur, rfl, _, _, h4, _⟩
  · have : l = [] := by simpa using h0
    subst this
    exact ⟨none, 0, rfl, fun _ => rfl, by simp⟩
  · exact ⟨some ⟨g, 0, none⟩, cap, by simp, by simp, by simpa using h4⟩
theorem same_yes (a b : Option Addr) (l : List Int) (n k cap cap' : Nat) (w : World) (hn : l.length = n) (hk : l.length = k) (hr : Row w a l) (hs : Row w b l) :
    Calls Try.prog 13 #[.slice a n cap, .slice b k cap'] w fun E w' => E = .returned (.bool true) ∧ Away [] w w' := by
  refine (same_c a b l l n k cap cap' w hn hk hr hs).mono fun E w' h => ?_
  obtain ⟨h1, n, rfl⟩ := h
  exact ⟨by rw [h1]; simp, (Away.refl [] w).drewN n⟩
theorem sameD_yes (g : Dg) (gv hv : Value) (w : World) (hg : Sl w gv g.d) (hh : Sl w hv g.d) :
    Calls Try.prog 14 #[.agg (csD g gv), .agg (csD g hv)] w fun E w' => E = .returned (.bool true) ∧ Away [] w w' := by
  obtain ⟨ga, gc, rfl, hg1, hg2, hg3⟩ := hg
  obtain ⟨ha, hc, rfl, hh1, hh2, hh3⟩ := hh
  have KS : Hid (∀ W, Away [] w W → Calls Try.prog 13 #[.slice ga g.d.length gc, .slice ha g.d.length hc] W fun E w' => E = .returned (.bool true) ∧ Away [] W w') := fun W h => same_yes ga ha g.d _ _ gc hc W rfl rfl (hg3.on h) (hh3.on h)
  clear hg3 hh3
  go_enter Try.func14, Try.ntmps14
  go_wp2_with (refine wpList_boxD rfl _ rfl g _ rfl ?_; refine Hid.out ?_)
  refine Lib.hid ?_
  intro g1 w1 hl1 hb haw
  have HA := Lib.hid haw; have HB := Lib.hid hb
  clear hb haw
  go_wp2_with (refine wpList_boxD rfl _ rfl g _ rfl ?_; refine Hid.out ?_)
  refine Lib.hid ?_
  intro g2 w2 hl2 hb haw
  replace HA := Lib.hid (HA.out.on haw); replace HB := Lib.hid (HB.out.on haw); have HC := Lib.hid hb
  clear hb haw
  have b0 := HB.out.c0; have b1 := HB.out.c1; have b2 := HB.out.c2; have b3 := HB.out.c3
  have d0 := HC.out.c0; have d1 := HC.out.c1; have d2 := HC.out.c2; have d3 := HC.out.c3
  have q1 : (g.sp == g.sp) = true := by simp
  have q2 : (g.dp == g.dp) = true := by simp
  have q3 : (g.ns == g.ns) = true := by simp
  go_wp2_with fail
  refine (KS.out _ HA.out).mono ?_
  rintro E w3 ⟨rfl, haw⟩
  replace HA := Lib.hid (HA.out.on haw)
  clear haw KS
  go_wp2_with fail
  go_ret
  exact ⟨rfl, HA.out⟩
#print axioms sameD_yes
def kS : Ax := ⟨4, [10, 0, 0, 1, 0, 0, 0, 0, 0, 0, 0, 0, 0, 0, 0, 0]⟩
def kT : Ax := ⟨4, [10, 0, 0, 2, 0, 0, 0, 0, 0, 0, 0, 0, 0, 0, 0, 0]⟩
def kG : Dg := ⟨1000, 7, false, [104, 105]⟩
def kB : List Int := [3, 232, 0, 7, 0, 10, 127, 127, 104, 105]
theorem bytes_of {l : List Int} (h : l.all (fun x => decide (0 ≤ x) && decide (x ≤ 255)) = true) : Bytes l := fun n hn => by
  have := List.all_eq_true.1 h n hn
  simpa using this
theorem kS_wf : WfA kS := ⟨⟨by decide, by decide⟩, rfl, bytes_of (by decide)⟩
theorem kT_wf : WfA kT := ⟨⟨by decide, by decide⟩, rfl, bytes_of (by decide)⟩
theorem kG_wf : WfD kG := ⟨⟨by decide, by decide⟩, ⟨by decide, by decide⟩, bytes_of (by decide), by decide⟩
theorem kB_bytes : Bytes kB := bytes_of (by decide)
theorem k_build : buildP kS kT kG = (kB, 0) := by decide +kernel
theorem k_parse : parseP kS kT kB = (kG, 0) := by
  have h := parse_out kS_wf kT_wf (g := kG) (s := kS) (t := kT) (by decide) ⟨by decide, by decide, by decide, by decide, by decide, by decide, kG_wf.d⟩
  have e : outP kS kT kG = kB := by
    have := k_build
    rw [build_ok (by decide) ⟨by decide, by decide, by decide, by decide, by decide, by decide, kG_wf.d⟩] at this
    exact (Prod.mk.inj this).1
  rwa [e] at h
theorem k_pseudo : psP kS kT 17 10 = (5150, 0) := by decide +kernel
theorem known_c (w : World) : Calls Try.prog 10 #[] w fun E w' => E = .returned (.bool true) ∧ Away [] w w' := by
  have HA : Hid (Away [] w w) := Away.refl _ _
  go_enter Try.func10, Try.ntmps10
  go_wp2_with (refine wpList_newX rfl rfl rfl _ _ rfl kS (fun _ => rfl) (fun _ => rfl) rfl ?_; refine Hid.out ?_)
  refine Lib.hid ?_
  intro g1 w1 hg1 hb haw
  replace HA := Lib.hid (HA.out.on haw); have HB := Lib.hid hb
  clear hb haw
  go_wp2_with (refine wpList_newX rfl rfl rfl _ _ rfl kT (fun _ => rfl) (fun _ => rfl) rfl ?_; refine Hid.out ?_)
  refine Lib.hid ?_
  intro g2 w2 hg2 hb haw
  replace HA := Lib.hid (HA.out.on haw); replace HB := Lib.hid (HB.out.on haw); have HC := Lib.hid hb
  clear hb haw
  have hA0 := (Away.refl [] w2).alloc (.cells ((kG.d.map (Value.int .u8)).toArray) 5)
  have HR0 := Lib.hid (Row.lit w2 kG.d kG_wf.d (by decide))
  go_wp2_with (first | (refine wpList_loadX rfl _ rfl g1 rfl kS (by exact HB.out) kS_wf ?_) | (refine wpList_loadX rfl _ rfl g2 rfl kT (by exact HC.out) kT_wf ?_))
  refine (build_c kS kT kG (.slice (some ⟨w2.heap.size, 0, none⟩) 2 2) _ kS_wf kT_wf ⟨kG_wf, ⟨_, _, rfl, by decide, by simp, by exact HR0.out⟩⟩).mono ?_
  rw [k_build]
  rintro E w3 ⟨bv, rfl, hown, hnew, haw0⟩
  have haw : Away [] w2 w3 := hA0.on haw0
  replace HA := Lib.hid (HA.out.on haw); replace HB := Lib.hid (HB.out.on haw); replace HC := Lib.hid (HC.out.on haw)
  have HO := Lib.hid hown
  obtain ⟨ba, bc, rfl, hbn, hbc⟩ := hown.slc
  clear hown hnew haw haw0 hA0 HR0
  have HBR := Lib.hid (HO.out.row' (by decide) kB_bytes)
  go_wp2_with (first | (refine wpList_loadX rfl _ rfl g1 rfl kS (by exact HB.out) kS_wf ?_) | (refine wpList_loadX rfl _ rfl g2 rfl kT (by exact HC.out) kT_wf ?_))
  refine (parse_c kS kT ba kB bc _ kS_wf kT_wf (by exact HBR.out) hbc hbn).mono ?_
  rw [k_parse]
  rintro E w4 ⟨dv, rfl, hown, hnew, haw⟩
  replace HA := Lib.hid (HA.out.on haw); replace HB := Lib.hid (HB.out.on haw); replace HC := Lib.hid (HC.out.on haw); replace HBR := Lib.hid (HBR.out.on haw)
  have HDO := Lib.hid hown
  obtain ⟨da, dc, rfl, hdn, hdc⟩ := hown.slc
  clear hown hnew haw HO
  go_wp2_with (refine wpList_newD rfl rfl rfl _ _ rfl kG (.slice da kG.d.length dc) (fun _ => rfl) (fun _ => rfl) rfl ?_; refine Hid.out ?_)
  refine Lib.hid ?_
  intro g5 w5 hg5 hb haw
  replace HA := Lib.hid (HA.out.on haw); replace HB := Lib.hid (HB.out.on haw); replace HC := Lib.hid (HC.out.on haw); replace HBR := Lib.hid (HBR.out.on haw); replace HDO := Lib.hid (HDO.out.on haw)
  have HD := Lib.hid hb
  clear hb haw
  go_wp2_with (first | (refine wpList_loadX rfl _ rfl g1 rfl kS (by exact HB.out) kS_wf ?_) | (refine wpList_loadX rfl _ rfl g2 rfl kT (by exact HC.out) kT_wf ?_))
  refine (pseudo_c kS kT 17 10 _ kS_wf kT_wf).mono ?_
  rw [k_pseudo]
  rintro E w6 ⟨rfl, haw⟩
  replace HA := Lib.hid (HA.out.on haw); replace HBR := Lib.hid (HBR.out.on haw); replace HDO := Lib.hid (HDO.out.on haw); replace HD := Lib.hid (HD.out.on haw)
  clear haw HB HC
  have haw := (Away.refl [] w6).alloc (.cells ((kB.map (Value.int .u8)).toArray) 5)
  have HR0 := Lib.hid (Row.lit w6 kB kB_bytes (by decide))
  replace HBR := Lib.hid (HBR.out.on haw)
  have HA7 := Lib.hid haw
  clear haw
  go_wp2_with fail
  refine (same_yes ba (some ⟨w6.heap.size, 0, none⟩) kB _ _ bc 10 _ rfl rfl (by exact HBR.out) (by exact HR0.out)).mono ?_
  rintro E w7 ⟨rfl, haw0⟩
  have haw := HA7.out.on haw0
  replace HA := Lib.hid (HA.out.on haw); replace HDO := Lib.hid (HDO.out.on haw); replace HD := Lib.hid (HD.out.on haw)
  clear haw haw0 HA7 HR0 HBR
  have d0 : w7.cell? ⟨g5, 0, none⟩ = some (.int .i64 1000) := HD.out.c0
  have d1 : w7.cell? ⟨g5, 1, none⟩ = some (.int .i64 7) := HD.out.c1
  have d2 : w7.cell? ⟨g5, 2, none⟩ = some (.bool false) := HD.out.c2
  have d3 : w7.cell? ⟨g5, 3, none⟩ = some (.slice da kG.d.length dc) := HD.out.c3
  have haw := (Away.refl [] w7).alloc (.cells ((kG.d.map (Value.int .u8)).toArray) 5)
  have HR0 := Lib.hid (Row.lit w7 kG.d kG_wf.d (by decide))
  replace HDO := Lib.hid ((HDO.out.on haw).row' (by decide) kG_wf.d)
  have HA7 := Lib.hid haw
  clear haw
  go_wp2_with fail
  refine (same_yes da (some ⟨w7.heap.size, 0, none⟩) kG.d _ _ dc 2 _ rfl rfl (by exact HDO.out) (by exact HR0.out)).mono ?_
  rintro E w8 ⟨rfl, haw0⟩
  have haw := HA7.out.on haw0
  replace HA := Lib.hid (HA.out.on haw)
  clear haw haw0
  go_wp2_with fail
  go_ret
  exact ⟨rfl, HA.out⟩
#print axioms known_c
end Go.Proofs.Ytbfpphoiapggnaa
