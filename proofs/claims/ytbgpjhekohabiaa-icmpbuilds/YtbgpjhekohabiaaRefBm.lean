/-
  Build, IsError of the document.
-/
import Derived.Test.YtbgpjhekohabiaaRefM
import Derived.Test.YtbgpjhekohabiaaBm
import Derived.Test.YtbgpjhekohabiaaMend
namespace Go.Proofs.Ytbgpjhekohabiaa
open Go.ChangeShapes Go.WideShapes Go.ChangeAt Go.RowKit Num
set_option linter.unusedVariables false
set_option maxHeartbeats 4000000
set_option maxRecDepth 100000

/-- A list of the call's own that grows, beside blocks that it keeps. -/
structure Gr (w wx : World) (K : List Nat) (v : Value) (l : List Int) : Prop where
  aw : Away [] w wx
  own : Owns wx v l
  new : New w.heap.size v
  ap : ∀ k ∈ K, v.ownBlock ≠ some k ∧ k < wx.heap.size
theorem Gr.on {w wx w' : World} {K : List Nat} {v : Value} {l : List Int} (h : Gr w wx K v l) (ha : Away [] wx w') : Gr w w' K v l :=
  ⟨h.aw.on ha, h.own.on ha, h.new, fun k hk => ⟨(h.ap k hk).1, Nat.lt_of_lt_of_le (h.ap k hk).2 ha.size⟩⟩
theorem Gr.step {w wx w' : World} {K : List Nat} {v v' : Value} {l m : List Int} (h : Gr w wx K v l) (ho : Owns w' v' m) (ha : Away v.ownBlock.toList wx w') (hm : Moved wx v v') :
    Gr w w' K v' m ∧ ∀ k ∈ K, w'.heap[k]? = wx.heap[k]? := by
  have hs := h.aw.size
  refine ⟨⟨h.aw.next ha (fun x hx => .inr (h.new x (by simpa using hx))), ho, h.new.moved hm hs, fun k hk => ⟨fun e => ?_, Nat.lt_of_lt_of_le (h.ap k hk).2 ha.size⟩⟩, fun k hk => ha.block k (h.ap k hk).2 (fun hx => (h.ap k hk).1 (by simpa using hx))⟩
  rcases hm k e with e | e
  · exact (h.ap k hk).1 e
  · have := (h.ap k hk).2; omega
theorem Gr.nil {w wx : World} (K : List Nat) (h : Away [] w wx) (hK : ∀ k ∈ K, k < wx.heap.size) : Gr w wx K (.slice none 0 0) [] := ⟨h, Owns.nil _, New.nil _, fun k hk => ⟨by simp [Value.ownBlock], hK k hk⟩⟩
theorem mok_doc (s t : Ax) (g : Mg) : mOk s t g = ((decide (g.v = 4) || decide (g.v = 6)) && adrvP s g.v && adrvP t g.v && octP g.ty && octP g.co) := by
  unfold mOk
  by_cases h : g.v = s.v
  · rw [decide_eq_true h, ← adrv_pair, h]
    by_cases hp : pairP s t = true
    · have := (pair_v hp).2
      have e : (decide (s.v = 4) || decide (s.v = 6)) = true := by simpa using this
      rw [e]; simp
    · have e : (adrvP s s.v && adrvP t s.v) = false := by rw [adrv_pair]; simpa using hp
      rw [e, Bool.and_assoc (decide (s.v = 4) || decide (s.v = 6)), e]; simp
  · have e : adrvP s g.v = false := by
      cases hz : adrvP s g.v
      · rfl
      · exact absurd (adrv_ne hz).symm h
    rw [decide_eq_false h, e]; simp
theorem rbuild_not (s t : Ax) (g : Mg) (dv : Value) (w : World) (hs : WfA s) (ht : WfA t) (hg : Dam w g dv) (h4 : g.v ≠ 4) (h6 : g.v ≠ 6) :
    Calls Try.prog 15 #[.agg (csA s.v s.l), .agg (csA t.v t.l), .agg (csM g dv)] w fun E w' => BuildOut w ([], 1) E w' := by
  have HS := Lib.hid hs
  have HT := Lib.hid ht
  have HG := Lib.hid hg
  have h4' : (g.v != 4) = true := by simpa using h4
  have h6' : (g.v != 6) = true := by simpa using h6
  clear hs ht hg
  go_enter Try.func15, Try.ntmps15
  go_wp2_with (refine wpList_box24 rfl _ rfl s rfl ?_; refine Hid.out ?_)
  refine Lib.hid ?_
  intro g1 w1 hg1 hb haw
  have HA := Lib.hid haw; have HB := Lib.hid hb
  clear hb haw
  go_wp2_with (refine wpList_box24 rfl _ rfl t rfl ?_; refine Hid.out ?_)
  refine Lib.hid ?_
  intro g2 w2 hg2 hb haw
  replace HA := Lib.hid (HA.out.on haw); replace HB := Lib.hid (HB.out.on haw); have HC := Lib.hid hb
  clear hb haw
  go_wp2_with (refine wpList_boxM rfl _ rfl g dv rfl ?_; refine Hid.out ?_)
  refine Lib.hid ?_
  intro g3 w3 hg3 hb haw
  replace HA := Lib.hid (HA.out.on haw); replace HB := Lib.hid (HB.out.on haw); replace HC := Lib.hid (HC.out.on haw); have HD := Lib.hid hb
  clear hb haw
  have c0 := HD.out.c0
  go_wp2_with fail
  go_ret2
  exact BuildOut.no 1 HA.out
theorem rbuild_no1_4 (s t : Ax) (g : Mg) (dv : Value) (w : World) (hs : WfA s) (ht : WfA t) (hg : Dam w g dv) (hv : g.v = 4) (z1 : adrvP s g.v = false) :
    Calls Try.prog 15 #[.agg (csA s.v s.l), .agg (csA t.v t.l), .agg (csM g dv)] w fun E w' => BuildOut w ([], 1) E w' := by
  have HS := Lib.hid hs
  have HT := Lib.hid ht
  have HG := Lib.hid hg
  have K1 : Hid (∀ w, Calls Try.prog 36 #[.agg (csA s.v s.l), .int .i64 4] w fun e w' => e = .returned (.bool false) ∧ Away [] w w') := fun w => by rw [← z1, hv]; exact raddress_c s 4 w hs
  have HV := Lib.hid hv
  clear hv z1
  clear hs ht hg
  go_enter Try.func15, Try.ntmps15
  go_wp2_with (refine wpList_box24 rfl _ rfl s rfl ?_; refine Hid.out ?_)
  refine Lib.hid ?_
  intro g1 w1 hg1 hb haw
  have HA := Lib.hid haw; have HB := Lib.hid hb
  clear hb haw
  go_wp2_with (refine wpList_box24 rfl _ rfl t rfl ?_; refine Hid.out ?_)
  refine Lib.hid ?_
  intro g2 w2 hg2 hb haw
  replace HA := Lib.hid (HA.out.on haw); replace HB := Lib.hid (HB.out.on haw); have HC := Lib.hid hb
  clear hb haw
  go_wp2_with (refine wpList_boxM rfl _ rfl g dv rfl ?_; refine Hid.out ?_)
  refine Lib.hid ?_
  intro g3 w3 hg3 hb haw
  replace HA := Lib.hid (HA.out.on haw); replace HB := Lib.hid (HB.out.on haw); replace HC := Lib.hid (HC.out.on haw); have HD := Lib.hid hb
  clear hb haw
  have c0 := HD.out.c0
  rw [HV.out] at c0
  go_wp2_with (first | (refine wpList_loadX rfl _ rfl g1 rfl s (by exact HB.out) HS.out ?_) | (refine wpList_loadX rfl _ rfl g2 rfl t (by exact HC.out) HT.out ?_))
  refine (K1.out _).mono ?_
  rintro E w4 ⟨rfl, haw⟩
  replace HA := Lib.hid (HA.out.on haw); replace HB := Lib.hid (HB.out.on haw); replace HC := Lib.hid (HC.out.on haw); replace HD := Lib.hid (HD.out.on haw)
  clear haw K1 c0
  have c0 := HD.out.c0; have c1 := HD.out.c1; have c2 := HD.out.c2
  rw [HV.out] at c0
  go_wp2_with fail
  go_ret2
  exact BuildOut.no 1 HA.out
theorem rbuild_no2_4 (s t : Ax) (g : Mg) (dv : Value) (w : World) (hs : WfA s) (ht : WfA t) (hg : Dam w g dv) (hv : g.v = 4) (z1 : adrvP s g.v = true) (z2 : adrvP t g.v = false) :
    Calls Try.prog 15 #[.agg (csA s.v s.l), .agg (csA t.v t.l), .agg (csM g dv)] w fun E w' => BuildOut w ([], 1) E w' := by
  have HS := Lib.hid hs
  have HT := Lib.hid ht
  have HG := Lib.hid hg
  have K1 : Hid (∀ w, Calls Try.prog 36 #[.agg (csA s.v s.l), .int .i64 4] w fun e w' => e = .returned (.bool true) ∧ Away [] w w') := fun w => by rw [← z1, hv]; exact raddress_c s 4 w hs
  have K2 : Hid (∀ w, Calls Try.prog 36 #[.agg (csA t.v t.l), .int .i64 4] w fun e w' => e = .returned (.bool false) ∧ Away [] w w') := fun w => by rw [← z2, hv]; exact raddress_c t 4 w ht
  have HV := Lib.hid hv
  clear hv z1 z2
  clear hs ht hg
  go_enter Try.func15, Try.ntmps15
  go_wp2_with (refine wpList_box24 rfl _ rfl s rfl ?_; refine Hid.out ?_)
  refine Lib.hid ?_
  intro g1 w1 hg1 hb haw
  have HA := Lib.hid haw; have HB := Lib.hid hb
  clear hb haw
  go_wp2_with (refine wpList_box24 rfl _ rfl t rfl ?_; refine Hid.out ?_)
  refine Lib.hid ?_
  intro g2 w2 hg2 hb haw
  replace HA := Lib.hid (HA.out.on haw); replace HB := Lib.hid (HB.out.on haw); have HC := Lib.hid hb
  clear hb haw
  go_wp2_with (refine wpList_boxM rfl _ rfl g dv rfl ?_; refine Hid.out ?_)
  refine Lib.hid ?_
  intro g3 w3 hg3 hb haw
  replace HA := Lib.hid (HA.out.on haw); replace HB := Lib.hid (HB.out.on haw); replace HC := Lib.hid (HC.out.on haw); have HD := Lib.hid hb
  clear hb haw
  have c0 := HD.out.c0
  rw [HV.out] at c0
  go_wp2_with (first | (refine wpList_loadX rfl _ rfl g1 rfl s (by exact HB.out) HS.out ?_) | (refine wpList_loadX rfl _ rfl g2 rfl t (by exact HC.out) HT.out ?_))
  refine (K1.out _).mono ?_
  rintro E w4 ⟨rfl, haw⟩
  replace HA := Lib.hid (HA.out.on haw); replace HB := Lib.hid (HB.out.on haw); replace HC := Lib.hid (HC.out.on haw); replace HD := Lib.hid (HD.out.on haw)
  clear haw K1 c0
  have c0 := HD.out.c0; have c1 := HD.out.c1; have c2 := HD.out.c2
  rw [HV.out] at c0
  go_wp2_with (first | (refine wpList_loadX rfl _ rfl g1 rfl s (by exact HB.out) HS.out ?_) | (refine wpList_loadX rfl _ rfl g2 rfl t (by exact HC.out) HT.out ?_))
  refine (K2.out _).mono ?_
  rintro E w5 ⟨rfl, haw⟩
  replace HA := Lib.hid (HA.out.on haw); replace HB := Lib.hid (HB.out.on haw); replace HC := Lib.hid (HC.out.on haw); replace HD := Lib.hid (HD.out.on haw)
  clear haw K2 c0
  have c0 := HD.out.c0; have c1 := HD.out.c1; have c2 := HD.out.c2
  rw [HV.out] at c0
  go_wp2_with fail
  go_ret2
  exact BuildOut.no 1 HA.out
theorem rbuild_no3_4 (s t : Ax) (g : Mg) (dv : Value) (w : World) (hs : WfA s) (ht : WfA t) (hg : Dam w g dv) (hv : g.v = 4) (z1 : adrvP s g.v = true) (z2 : adrvP t g.v = true) (h : g.ty < 0) :
    Calls Try.prog 15 #[.agg (csA s.v s.l), .agg (csA t.v t.l), .agg (csM g dv)] w fun E w' => BuildOut w ([], 1) E w' := by
  have HS := Lib.hid hs
  have HT := Lib.hid ht
  have HG := Lib.hid hg
  have K1 : Hid (∀ w, Calls Try.prog 36 #[.agg (csA s.v s.l), .int .i64 4] w fun e w' => e = .returned (.bool true) ∧ Away [] w w') := fun w => by rw [← z1, hv]; exact raddress_c s 4 w hs
  have K2 : Hid (∀ w, Calls Try.prog 36 #[.agg (csA t.v t.l), .int .i64 4] w fun e w' => e = .returned (.bool true) ∧ Away [] w w') := fun w => by rw [← z2, hv]; exact raddress_c t 4 w ht
  have HV := Lib.hid hv
  clear hv z1 z2
  clear hs ht hg
  go_enter Try.func15, Try.ntmps15
  go_wp2_with (refine wpList_box24 rfl _ rfl s rfl ?_; refine Hid.out ?_)
  refine Lib.hid ?_
  intro g1 w1 hg1 hb haw
  have HA := Lib.hid haw; have HB := Lib.hid hb
  clear hb haw
  go_wp2_with (refine wpList_box24 rfl _ rfl t rfl ?_; refine Hid.out ?_)
  refine Lib.hid ?_
  intro g2 w2 hg2 hb haw
  replace HA := Lib.hid (HA.out.on haw); replace HB := Lib.hid (HB.out.on haw); have HC := Lib.hid hb
  clear hb haw
  go_wp2_with (refine wpList_boxM rfl _ rfl g dv rfl ?_; refine Hid.out ?_)
  refine Lib.hid ?_
  intro g3 w3 hg3 hb haw
  replace HA := Lib.hid (HA.out.on haw); replace HB := Lib.hid (HB.out.on haw); replace HC := Lib.hid (HC.out.on haw); have HD := Lib.hid hb
  clear hb haw
  have c0 := HD.out.c0
  rw [HV.out] at c0
  go_wp2_with (first | (refine wpList_loadX rfl _ rfl g1 rfl s (by exact HB.out) HS.out ?_) | (refine wpList_loadX rfl _ rfl g2 rfl t (by exact HC.out) HT.out ?_))
  refine (K1.out _).mono ?_
  rintro E w4 ⟨rfl, haw⟩
  replace HA := Lib.hid (HA.out.on haw); replace HB := Lib.hid (HB.out.on haw); replace HC := Lib.hid (HC.out.on haw); replace HD := Lib.hid (HD.out.on haw)
  clear haw K1 c0
  have c0 := HD.out.c0; have c1 := HD.out.c1; have c2 := HD.out.c2
  rw [HV.out] at c0
  go_wp2_with (first | (refine wpList_loadX rfl _ rfl g1 rfl s (by exact HB.out) HS.out ?_) | (refine wpList_loadX rfl _ rfl g2 rfl t (by exact HC.out) HT.out ?_))
  refine (K2.out _).mono ?_
  rintro E w5 ⟨rfl, haw⟩
  replace HA := Lib.hid (HA.out.on haw); replace HB := Lib.hid (HB.out.on haw); replace HC := Lib.hid (HC.out.on haw); replace HD := Lib.hid (HD.out.on haw)
  clear haw K2 c0
  have c0 := HD.out.c0; have c1 := HD.out.c1; have c2 := HD.out.c2
  rw [HV.out] at c0
  go_wp2_with fail
  go_ret2
  exact BuildOut.no 1 HA.out
theorem rbuild_no4_4 (s t : Ax) (g : Mg) (dv : Value) (w : World) (hs : WfA s) (ht : WfA t) (hg : Dam w g dv) (hv : g.v = 4) (z1 : adrvP s g.v = true) (z2 : adrvP t g.v = true) (a0 : 0 ≤ g.ty) (h : 255 < g.ty) :
    Calls Try.prog 15 #[.agg (csA s.v s.l), .agg (csA t.v t.l), .agg (csM g dv)] w fun E w' => BuildOut w ([], 1) E w' := by
  have HS := Lib.hid hs
  have HT := Lib.hid ht
  have HG := Lib.hid hg
  have K1 : Hid (∀ w, Calls Try.prog 36 #[.agg (csA s.v s.l), .int .i64 4] w fun e w' => e = .returned (.bool true) ∧ Away [] w w') := fun w => by rw [← z1, hv]; exact raddress_c s 4 w hs
  have K2 : Hid (∀ w, Calls Try.prog 36 #[.agg (csA t.v t.l), .int .i64 4] w fun e w' => e = .returned (.bool true) ∧ Away [] w w') := fun w => by rw [← z2, hv]; exact raddress_c t 4 w ht
  have HV := Lib.hid hv
  clear hv z1 z2
  clear hs ht hg
  go_enter Try.func15, Try.ntmps15
  go_wp2_with (refine wpList_box24 rfl _ rfl s rfl ?_; refine Hid.out ?_)
  refine Lib.hid ?_
  intro g1 w1 hg1 hb haw
  have HA := Lib.hid haw; have HB := Lib.hid hb
  clear hb haw
  go_wp2_with (refine wpList_box24 rfl _ rfl t rfl ?_; refine Hid.out ?_)
  refine Lib.hid ?_
  intro g2 w2 hg2 hb haw
  replace HA := Lib.hid (HA.out.on haw); replace HB := Lib.hid (HB.out.on haw); have HC := Lib.hid hb
  clear hb haw
  go_wp2_with (refine wpList_boxM rfl _ rfl g dv rfl ?_; refine Hid.out ?_)
  refine Lib.hid ?_
  intro g3 w3 hg3 hb haw
  replace HA := Lib.hid (HA.out.on haw); replace HB := Lib.hid (HB.out.on haw); replace HC := Lib.hid (HC.out.on haw); have HD := Lib.hid hb
  clear hb haw
  have c0 := HD.out.c0
  rw [HV.out] at c0
  go_wp2_with (first | (refine wpList_loadX rfl _ rfl g1 rfl s (by exact HB.out) HS.out ?_) | (refine wpList_loadX rfl _ rfl g2 rfl t (by exact HC.out) HT.out ?_))
  refine (K1.out _).mono ?_
  rintro E w4 ⟨rfl, haw⟩
  replace HA := Lib.hid (HA.out.on haw); replace HB := Lib.hid (HB.out.on haw); replace HC := Lib.hid (HC.out.on haw); replace HD := Lib.hid (HD.out.on haw)
  clear haw K1 c0
  have c0 := HD.out.c0; have c1 := HD.out.c1; have c2 := HD.out.c2
  rw [HV.out] at c0
  go_wp2_with (first | (refine wpList_loadX rfl _ rfl g1 rfl s (by exact HB.out) HS.out ?_) | (refine wpList_loadX rfl _ rfl g2 rfl t (by exact HC.out) HT.out ?_))
  refine (K2.out _).mono ?_
  rintro E w5 ⟨rfl, haw⟩
  replace HA := Lib.hid (HA.out.on haw); replace HB := Lib.hid (HB.out.on haw); replace HC := Lib.hid (HC.out.on haw); replace HD := Lib.hid (HD.out.on haw)
  clear haw K2 c0
  have c0 := HD.out.c0; have c1 := HD.out.c1; have c2 := HD.out.c2
  rw [HV.out] at c0
  go_wp2_with fail
  go_ret2
  exact BuildOut.no 1 HA.out
theorem rbuild_no5_4 (s t : Ax) (g : Mg) (dv : Value) (w : World) (hs : WfA s) (ht : WfA t) (hg : Dam w g dv) (hv : g.v = 4) (z1 : adrvP s g.v = true) (z2 : adrvP t g.v = true) (a0 : 0 ≤ g.ty) (a1 : g.ty ≤ 255) (h : g.co < 0) :
    Calls Try.prog 15 #[.agg (csA s.v s.l), .agg (csA t.v t.l), .agg (csM g dv)] w fun E w' => BuildOut w ([], 1) E w' := by
  have HS := Lib.hid hs
  have HT := Lib.hid ht
  have HG := Lib.hid hg
  have K1 : Hid (∀ w, Calls Try.prog 36 #[.agg (csA s.v s.l), .int .i64 4] w fun e w' => e = .returned (.bool true) ∧ Away [] w w') := fun w => by rw [← z1, hv]; exact raddress_c s 4 w hs
  have K2 : Hid (∀ w, Calls Try.prog 36 #[.agg (csA t.v t.l), .int .i64 4] w fun e w' => e = .returned (.bool true) ∧ Away [] w w') := fun w => by rw [← z2, hv]; exact raddress_c t 4 w ht
  have HV := Lib.hid hv
  clear hv z1 z2
  clear hs ht hg
  go_enter Try.func15, Try.ntmps15
  go_wp2_with (refine wpList_box24 rfl _ rfl s rfl ?_; refine Hid.out ?_)
  refine Lib.hid ?_
  intro g1 w1 hg1 hb haw
  have HA := Lib.hid haw; have HB := Lib.hid hb
  clear hb haw
  go_wp2_with (refine wpList_box24 rfl _ rfl t rfl ?_; refine Hid.out ?_)
  refine Lib.hid ?_
  intro g2 w2 hg2 hb haw
  replace HA := Lib.hid (HA.out.on haw); replace HB := Lib.hid (HB.out.on haw); have HC := Lib.hid hb
  clear hb haw
  go_wp2_with (refine wpList_boxM rfl _ rfl g dv rfl ?_; refine Hid.out ?_)
  refine Lib.hid ?_
  intro g3 w3 hg3 hb haw
  replace HA := Lib.hid (HA.out.on haw); replace HB := Lib.hid (HB.out.on haw); replace HC := Lib.hid (HC.out.on haw); have HD := Lib.hid hb
  clear hb haw
  have c0 := HD.out.c0
  rw [HV.out] at c0
  go_wp2_with (first | (refine wpList_loadX rfl _ rfl g1 rfl s (by exact HB.out) HS.out ?_) | (refine wpList_loadX rfl _ rfl g2 rfl t (by exact HC.out) HT.out ?_))
  refine (K1.out _).mono ?_
  rintro E w4 ⟨rfl, haw⟩
  replace HA := Lib.hid (HA.out.on haw); replace HB := Lib.hid (HB.out.on haw); replace HC := Lib.hid (HC.out.on haw); replace HD := Lib.hid (HD.out.on haw)
  clear haw K1 c0
  have c0 := HD.out.c0; have c1 := HD.out.c1; have c2 := HD.out.c2
  rw [HV.out] at c0
  go_wp2_with (first | (refine wpList_loadX rfl _ rfl g1 rfl s (by exact HB.out) HS.out ?_) | (refine wpList_loadX rfl _ rfl g2 rfl t (by exact HC.out) HT.out ?_))
  refine (K2.out _).mono ?_
  rintro E w5 ⟨rfl, haw⟩
  replace HA := Lib.hid (HA.out.on haw); replace HB := Lib.hid (HB.out.on haw); replace HC := Lib.hid (HC.out.on haw); replace HD := Lib.hid (HD.out.on haw)
  clear haw K2 c0
  have c0 := HD.out.c0; have c1 := HD.out.c1; have c2 := HD.out.c2
  rw [HV.out] at c0
  go_wp2_with fail
  go_ret2
  exact BuildOut.no 1 HA.out
theorem rbuild_no6_4 (s t : Ax) (g : Mg) (dv : Value) (w : World) (hs : WfA s) (ht : WfA t) (hg : Dam w g dv) (hv : g.v = 4) (z1 : adrvP s g.v = true) (z2 : adrvP t g.v = true) (a0 : 0 ≤ g.ty) (a1 : g.ty ≤ 255) (b0 : 0 ≤ g.co) (h : 255 < g.co) :
    Calls Try.prog 15 #[.agg (csA s.v s.l), .agg (csA t.v t.l), .agg (csM g dv)] w fun E w' => BuildOut w ([], 1) E w' := by
  have HS := Lib.hid hs
  have HT := Lib.hid ht
  have HG := Lib.hid hg
  have K1 : Hid (∀ w, Calls Try.prog 36 #[.agg (csA s.v s.l), .int .i64 4] w fun e w' => e = .returned (.bool true) ∧ Away [] w w') := fun w => by rw [← z1, hv]; exact raddress_c s 4 w hs
  have K2 : Hid (∀ w, Calls Try.prog 36 #[.agg (csA t.v t.l), .int .i64 4] w fun e w' => e = .returned (.bool true) ∧ Away [] w w') := fun w => by rw [← z2, hv]; exact raddress_c t 4 w ht
  have HV := Lib.hid hv
  clear hv z1 z2
  clear hs ht hg
  go_enter Try.func15, Try.ntmps15
  go_wp2_with (refine wpList_box24 rfl _ rfl s rfl ?_; refine Hid.out ?_)
  refine Lib.hid ?_
  intro g1 w1 hg1 hb haw
  have HA := Lib.hid haw; have HB := Lib.hid hb
  clear hb haw
  go_wp2_with (refine wpList_box24 rfl _ rfl t rfl ?_; refine Hid.out ?_)
  refine Lib.hid ?_
  intro g2 w2 hg2 hb haw
  replace HA := Lib.hid (HA.out.on haw); replace HB := Lib.hid (HB.out.on haw); have HC := Lib.hid hb
  clear hb haw
  go_wp2_with (refine wpList_boxM rfl _ rfl g dv rfl ?_; refine Hid.out ?_)
  refine Lib.hid ?_
  intro g3 w3 hg3 hb haw
  replace HA := Lib.hid (HA.out.on haw); replace HB := Lib.hid (HB.out.on haw); replace HC := Lib.hid (HC.out.on haw); have HD := Lib.hid hb
  clear hb haw
  have c0 := HD.out.c0
  rw [HV.out] at c0
  go_wp2_with (first | (refine wpList_loadX rfl _ rfl g1 rfl s (by exact HB.out) HS.out ?_) | (refine wpList_loadX rfl _ rfl g2 rfl t (by exact HC.out) HT.out ?_))
  refine (K1.out _).mono ?_
  rintro E w4 ⟨rfl, haw⟩
  replace HA := Lib.hid (HA.out.on haw); replace HB := Lib.hid (HB.out.on haw); replace HC := Lib.hid (HC.out.on haw); replace HD := Lib.hid (HD.out.on haw)
  clear haw K1 c0
  have c0 := HD.out.c0; have c1 := HD.out.c1; have c2 := HD.out.c2
  rw [HV.out] at c0
  go_wp2_with (first | (refine wpList_loadX rfl _ rfl g1 rfl s (by exact HB.out) HS.out ?_) | (refine wpList_loadX rfl _ rfl g2 rfl t (by exact HC.out) HT.out ?_))
  refine (K2.out _).mono ?_
  rintro E w5 ⟨rfl, haw⟩
  replace HA := Lib.hid (HA.out.on haw); replace HB := Lib.hid (HB.out.on haw); replace HC := Lib.hid (HC.out.on haw); replace HD := Lib.hid (HD.out.on haw)
  clear haw K2 c0
  have c0 := HD.out.c0; have c1 := HD.out.c1; have c2 := HD.out.c2
  rw [HV.out] at c0
  go_wp2_with fail
  go_ret2
  exact BuildOut.no 1 HA.out
theorem rbuild_long_4 (s t : Ax) (g : Mg) (dv : Value) (w : World) (hs : WfA s) (ht : WfA t) (hg : Dam w g dv) (hv : g.v = 4) (z1 : adrvP s g.v = true) (z2 : adrvP t g.v = true) (a0 : 0 ≤ g.ty) (a1 : g.ty ≤ 255) (b0 : 0 ≤ g.co) (b1 : g.co ≤ 255) (hr : mostP g.v - 8 < g.d.length) :
    Calls Try.prog 15 #[.agg (csA s.v s.l), .agg (csA t.v t.l), .agg (csM g dv)] w fun E w' => BuildOut w ([], 3) E w' := by
  have HS := Lib.hid hs
  have HT := Lib.hid ht
  have HG := Lib.hid hg
  have K1 : Hid (∀ w, Calls Try.prog 36 #[.agg (csA s.v s.l), .int .i64 4] w fun e w' => e = .returned (.bool true) ∧ Away [] w w') := fun w => by rw [← z1, hv]; exact raddress_c s 4 w hs
  have K2 : Hid (∀ w, Calls Try.prog 36 #[.agg (csA t.v t.l), .int .i64 4] w fun e w' => e = .returned (.bool true) ∧ Away [] w w') := fun w => by rw [← z2, hv]; exact raddress_c t 4 w ht
  have HV := Lib.hid hv
  clear hv z1 z2
  clear hs ht hg
  go_enter Try.func15, Try.ntmps15
  go_wp2_with (refine wpList_box24 rfl _ rfl s rfl ?_; refine Hid.out ?_)
  refine Lib.hid ?_
  intro g1 w1 hg1 hb haw
  have HA := Lib.hid haw; have HB := Lib.hid hb
  clear hb haw
  go_wp2_with (refine wpList_box24 rfl _ rfl t rfl ?_; refine Hid.out ?_)
  refine Lib.hid ?_
  intro g2 w2 hg2 hb haw
  replace HA := Lib.hid (HA.out.on haw); replace HB := Lib.hid (HB.out.on haw); have HC := Lib.hid hb
  clear hb haw
  go_wp2_with (refine wpList_boxM rfl _ rfl g dv rfl ?_; refine Hid.out ?_)
  refine Lib.hid ?_
  intro g3 w3 hg3 hb haw
  replace HA := Lib.hid (HA.out.on haw); replace HB := Lib.hid (HB.out.on haw); replace HC := Lib.hid (HC.out.on haw); have HD := Lib.hid hb
  clear hb haw
  have c0 := HD.out.c0
  rw [HV.out] at c0
  go_wp2_with (first | (refine wpList_loadX rfl _ rfl g1 rfl s (by exact HB.out) HS.out ?_) | (refine wpList_loadX rfl _ rfl g2 rfl t (by exact HC.out) HT.out ?_))
  refine (K1.out _).mono ?_
  rintro E w4 ⟨rfl, haw⟩
  replace HA := Lib.hid (HA.out.on haw); replace HB := Lib.hid (HB.out.on haw); replace HC := Lib.hid (HC.out.on haw); replace HD := Lib.hid (HD.out.on haw)
  clear haw K1 c0
  have c0 := HD.out.c0; have c1 := HD.out.c1; have c2 := HD.out.c2
  rw [HV.out] at c0
  go_wp2_with (first | (refine wpList_loadX rfl _ rfl g1 rfl s (by exact HB.out) HS.out ?_) | (refine wpList_loadX rfl _ rfl g2 rfl t (by exact HC.out) HT.out ?_))
  refine (K2.out _).mono ?_
  rintro E w5 ⟨rfl, haw⟩
  replace HA := Lib.hid (HA.out.on haw); replace HB := Lib.hid (HB.out.on haw); replace HC := Lib.hid (HC.out.on haw); replace HD := Lib.hid (HD.out.on haw)
  clear haw K2 c0
  have c0 := HD.out.c0; have c1 := HD.out.c1; have c2 := HD.out.c2
  rw [HV.out] at c0
  obtain ⟨da, dcap, hdv, hdc⟩ : ∃ a c, dv = .slice a g.d.length c ∧ g.d.length ≤ c := by obtain ⟨a, c, h, h2, _⟩ := HG.out.d; exact ⟨a, c, h, h2⟩
  subst hdv
  have hdl := HG.out.wf.dn
  go_upto_region 3 with fail
  have HCL : Hid (Away [] w w5.drew ∧ BoxX w5.drew g1 s ∧ BoxX w5.drew g2 t ∧ BoxM w5.drew g3 g (.slice da g.d.length dcap)) := ⟨HA.out.drew, HB.out, HC.out, HD.out⟩
  obtain ⟨rm0, rm1⟩ := most_bd 4
  have KR : Hid (∀ W, (Away [] w W ∧ BoxX W g1 s ∧ BoxX W g2 t ∧ BoxM W g3 g (.slice da g.d.length dcap)) → Calls Try.prog 37 #[.int .i64 4] W fun e w' => e = .returned (.int .i64 (mostP 4)) ∧ (Away [] w w' ∧ BoxX w' g1 s ∧ BoxX w' g2 t ∧ BoxM w' g3 g (.slice da g.d.length dcap))) :=
    fun W h => (rmost_c 4 W).mono fun e w' k => ⟨k.1, by rw [k.2]; exact h⟩
  rw [HV.out] at hr
  generalize mostP 4 = rm at *
  refine wp_region_cls (C := fun w' => Away [] w w' ∧ BoxX w' g1 s ∧ BoxX w' g2 t ∧ BoxM w' g3 g (.slice da g.d.length dcap)) (by kernel_rfl) (by kernel_rfl) HCL.out ?_
  go_big_quiet_want; (refine quiet_val ?_ ?_ ?_; rotate_left; (intro w; go_simp; rfl); go_simp; go_big_quiet_on)
  go_big_quiet_want; refine quiet_ld _ rfl (ad := ⟨g3, 4, none⟩) rfl (fun w' h => ldB h.2.2.2.c4) ?_; go_simp; go_big_quiet_on
  go_big_quiet_want; (refine quiet_val ?_ ?_ ?_; rotate_left; (intro w; go_simp; rfl); go_simp; go_big_quiet_on)
  go_big_quiet_want; (refine quiet_val ?_ ?_ ?_; rotate_left; (intro w; go_simp; rfl); go_simp; go_big_quiet_on)
  go_big_quiet_want; refine quiet_ld _ rfl (ad := ⟨g3, 0, none⟩) rfl (fun w' h => ld3 (by have := h.2.2.2.c0; rwa [HV.out] at this)) ?_; go_simp; go_big_quiet_on
  go_big_quiet_want; refine quiet_call 37 #[.int .i64 4] (.int .i64 rm) ?_ KR.out ?_
  · intro w; go_simp; done
  go_simp; go_big_quiet_on
  go_big_quiet_want; (refine quiet_val ?_ ?_ ?_; rotate_left; (intro w; go_simp; rfl); go_simp; go_big_quiet_on)
  go_big_quiet_want; (refine quiet_val ?_ ?_ ?_; rotate_left; (intro w; go_simp; rfl); go_simp; go_big_quiet_on)
  refine wpQuiet_nil ?_
  intro V hV
  rw [show IntKind.i64.wrap (rm - 8) = rm - 8 from IntWalk.i64_in _ ⟨by omega, by omega⟩]
  replace HA := Lib.hid hV.1; replace HB := Lib.hid hV.2.1; replace HC := Lib.hid hV.2.2.1; replace HD := Lib.hid hV.2.2.2
  clear hV KR HCL c0 c1 c2
  have hl1 := HB.out.lt; have hl2 := HC.out.lt; have hl3 := HD.out.lt
  have c0 := HD.out.c0; have c1 := HD.out.c1; have c2 := HD.out.c2; have c3 := HD.out.c3; have c4 := HD.out.c4
  rw [HV.out] at c0
  go_wp2_with fail
  go_ret2
  exact BuildOut.no 3 HA.out
theorem rbuild_yes_4 (s t : Ax) (g : Mg) (dv : Value) (w : World) (hs : WfA s) (ht : WfA t) (hg : Dam w g dv) (hv : g.v = 4) (z1 : adrvP s g.v = true) (z2 : adrvP t g.v = true) (a0 : 0 ≤ g.ty) (a1 : g.ty ≤ 255) (b0 : 0 ≤ g.co) (b1 : g.co ≤ 255) (hr : (g.d.length : Int) ≤ mostP g.v - 8) :
    Calls Try.prog 15 #[.agg (csA s.v s.l), .agg (csA t.v t.l), .agg (csM g dv)] w fun E w' => BuildOut w (mlayP s t g, 0) E w' := by
  have HS := Lib.hid hs
  have HT := Lib.hid ht
  have HG := Lib.hid hg
  have hrm0 := most_bd g.v
  have hsv : s.v = g.v := adrv_ne z1
  have HF : Hid (FitM s g) := ⟨hsv.symm, a0, a1, b0, b1, hg.wf.re0, hg.wf.re1, by rw [hsv]; exact hr, hg.wf.d⟩
  have HRL := Lib.hid (mraw_len g)
  have HRB := Lib.hid (mraw_bytes HF.out)
  have hl16 : (mrawP g).length ≤ 65535 := by rw [mraw_len]; omega
  obtain ⟨x, hx⟩ : ∃ x, x = mckP s t (mrawP g) := ⟨_, rfl⟩
  obtain ⟨x0, x1⟩ := mck_bd hs ht HRB.out hl16
  have KC : Hid (∀ W a cap n, Row W a (mrawP g) → n = (mrawP g).length → Calls Try.prog 38 #[.agg (csA s.v s.l), .agg (csA t.v t.l), .int .i64 4, .slice a n cap] W fun E w' => E = .returned (.int .i64 x) ∧ Away [] W w') := fun W a cap n h1 h3 => by subst h3; rw [hx]; exact rchecksum_c s t a (mrawP g) cap W hs ht (by omega) h1 hl16 (by rw [mraw_len]; omega) 4 (by omega)
  rw [← hx] at x0 x1
  have HLY : Hid (mlayP s t g = ((mrawP g).set 2 (x / 256)).set 3 (x % 256)) := by rw [hx]; rfl
  clear hx hrm0 hl16 hsv
  have K1 : Hid (∀ w, Calls Try.prog 36 #[.agg (csA s.v s.l), .int .i64 4] w fun e w' => e = .returned (.bool true) ∧ Away [] w w') := fun w => by rw [← z1, hv]; exact raddress_c s 4 w hs
  have K2 : Hid (∀ w, Calls Try.prog 36 #[.agg (csA t.v t.l), .int .i64 4] w fun e w' => e = .returned (.bool true) ∧ Away [] w w') := fun w => by rw [← z2, hv]; exact raddress_c t 4 w ht
  have HV := Lib.hid hv
  clear hv z1 z2
  clear hs ht hg
  go_enter Try.func15, Try.ntmps15
  go_wp2_with (refine wpList_box24 rfl _ rfl s rfl ?_; refine Hid.out ?_)
  refine Lib.hid ?_
  intro g1 w1 hg1 hb haw
  have HA := Lib.hid haw; have HB := Lib.hid hb
  clear hb haw
  go_wp2_with (refine wpList_box24 rfl _ rfl t rfl ?_; refine Hid.out ?_)
  refine Lib.hid ?_
  intro g2 w2 hg2 hb haw
  replace HA := Lib.hid (HA.out.on haw); replace HB := Lib.hid (HB.out.on haw); have HC := Lib.hid hb
  clear hb haw
  go_wp2_with (refine wpList_boxM rfl _ rfl g dv rfl ?_; refine Hid.out ?_)
  refine Lib.hid ?_
  intro g3 w3 hg3 hb haw
  replace HA := Lib.hid (HA.out.on haw); replace HB := Lib.hid (HB.out.on haw); replace HC := Lib.hid (HC.out.on haw); have HD := Lib.hid hb
  clear hb haw
  have c0 := HD.out.c0
  rw [HV.out] at c0
  go_wp2_with (first | (refine wpList_loadX rfl _ rfl g1 rfl s (by exact HB.out) HS.out ?_) | (refine wpList_loadX rfl _ rfl g2 rfl t (by exact HC.out) HT.out ?_))
  refine (K1.out _).mono ?_
  rintro E w4 ⟨rfl, haw⟩
  replace HA := Lib.hid (HA.out.on haw); replace HB := Lib.hid (HB.out.on haw); replace HC := Lib.hid (HC.out.on haw); replace HD := Lib.hid (HD.out.on haw)
  clear haw K1 c0
  have c0 := HD.out.c0; have c1 := HD.out.c1; have c2 := HD.out.c2
  rw [HV.out] at c0
  go_wp2_with (first | (refine wpList_loadX rfl _ rfl g1 rfl s (by exact HB.out) HS.out ?_) | (refine wpList_loadX rfl _ rfl g2 rfl t (by exact HC.out) HT.out ?_))
  refine (K2.out _).mono ?_
  rintro E w5 ⟨rfl, haw⟩
  replace HA := Lib.hid (HA.out.on haw); replace HB := Lib.hid (HB.out.on haw); replace HC := Lib.hid (HC.out.on haw); replace HD := Lib.hid (HD.out.on haw)
  clear haw K2 c0
  have c0 := HD.out.c0; have c1 := HD.out.c1; have c2 := HD.out.c2
  rw [HV.out] at c0
  obtain ⟨da, dcap, hdv, hdc⟩ : ∃ a c, dv = .slice a g.d.length c ∧ g.d.length ≤ c := by obtain ⟨a, c, h, h2, _⟩ := HG.out.d; exact ⟨a, c, h, h2⟩
  subst hdv
  have hdl := HG.out.wf.dn
  go_upto_region 3 with fail
  have HCL : Hid (Away [] w w5.drew ∧ BoxX w5.drew g1 s ∧ BoxX w5.drew g2 t ∧ BoxM w5.drew g3 g (.slice da g.d.length dcap)) := ⟨HA.out.drew, HB.out, HC.out, HD.out⟩
  obtain ⟨rm0, rm1⟩ := most_bd 4
  have KR : Hid (∀ W, (Away [] w W ∧ BoxX W g1 s ∧ BoxX W g2 t ∧ BoxM W g3 g (.slice da g.d.length dcap)) → Calls Try.prog 37 #[.int .i64 4] W fun e w' => e = .returned (.int .i64 (mostP 4)) ∧ (Away [] w w' ∧ BoxX w' g1 s ∧ BoxX w' g2 t ∧ BoxM w' g3 g (.slice da g.d.length dcap))) :=
    fun W h => (rmost_c 4 W).mono fun e w' k => ⟨k.1, by rw [k.2]; exact h⟩
  rw [HV.out] at hr
  generalize mostP 4 = rm at *
  refine wp_region_cls (C := fun w' => Away [] w w' ∧ BoxX w' g1 s ∧ BoxX w' g2 t ∧ BoxM w' g3 g (.slice da g.d.length dcap)) (by kernel_rfl) (by kernel_rfl) HCL.out ?_
  go_big_quiet_want; (refine quiet_val ?_ ?_ ?_; rotate_left; (intro w; go_simp; rfl); go_simp; go_big_quiet_on)
  go_big_quiet_want; refine quiet_ld _ rfl (ad := ⟨g3, 4, none⟩) rfl (fun w' h => ldB h.2.2.2.c4) ?_; go_simp; go_big_quiet_on
  go_big_quiet_want; (refine quiet_val ?_ ?_ ?_; rotate_left; (intro w; go_simp; rfl); go_simp; go_big_quiet_on)
  go_big_quiet_want; (refine quiet_val ?_ ?_ ?_; rotate_left; (intro w; go_simp; rfl); go_simp; go_big_quiet_on)
  go_big_quiet_want; refine quiet_ld _ rfl (ad := ⟨g3, 0, none⟩) rfl (fun w' h => ld3 (by have := h.2.2.2.c0; rwa [HV.out] at this)) ?_; go_simp; go_big_quiet_on
  go_big_quiet_want; refine quiet_call 37 #[.int .i64 4] (.int .i64 rm) ?_ KR.out ?_
  · intro w; go_simp; done
  go_simp; go_big_quiet_on
  go_big_quiet_want; (refine quiet_val ?_ ?_ ?_; rotate_left; (intro w; go_simp; rfl); go_simp; go_big_quiet_on)
  go_big_quiet_want; (refine quiet_val ?_ ?_ ?_; rotate_left; (intro w; go_simp; rfl); go_simp; go_big_quiet_on)
  refine wpQuiet_nil ?_
  intro V hV
  rw [show IntKind.i64.wrap (rm - 8) = rm - 8 from IntWalk.i64_in _ ⟨by omega, by omega⟩]
  replace HA := Lib.hid hV.1; replace HB := Lib.hid hV.2.1; replace HC := Lib.hid hV.2.2.1; replace HD := Lib.hid hV.2.2.2
  clear hV KR HCL c0 c1 c2
  have hl1 := HB.out.lt; have hl2 := HC.out.lt; have hl3 := HD.out.lt
  have c0 := HD.out.c0; have c1 := HD.out.c1; have c2 := HD.out.c2; have c3 := HD.out.c3; have c4 := HD.out.c4
  rw [HV.out] at c0
  have re0 := HG.out.wf.re0; have re1 := HG.out.wf.re1
  have hlit := (Away.refl [] V).alloc (.cells (([g.ty, g.co, 0, 0, g.re / 16777216, g.re / 65536 % 256, g.re / 256 % 256, g.re % 256] : List Int).map (Value.int .u8)).toArray 5)
  have hown0 : Owns (V.alloc (.cells (([g.ty, g.co, 0, 0, g.re / 16777216, g.re / 65536 % 256, g.re / 256 % 256, g.re % 256] : List Int).map (Value.int .u8)).toArray 5)) (.slice (some ⟨V.heap.size, 0, none⟩) 8 8) [g.ty, g.co, 0, 0, g.re / 16777216, g.re / 65536 % 256, g.re / 256 % 256, g.re % 256] := World.ownsRow_lit V ((([g.ty, g.co, 0, 0, g.re / 16777216, g.re / 65536 % 256, g.re / 256 % 256, g.re % 256] : List Int).map (Value.int .u8)).toArray) 8 (Nat.zero_le _) (by decide) rfl
  have HG0 : Hid (Gr w (V.alloc (.cells (([g.ty, g.co, 0, 0, g.re / 16777216, g.re / 65536 % 256, g.re / 256 % 256, g.re % 256] : List Int).map (Value.int .u8)).toArray 5)) [g1, g2, g3] (.slice (some ⟨V.heap.size, 0, none⟩) 8 8) [g.ty, g.co, 0, 0, g.re / 16777216, g.re / 65536 % 256, g.re / 256 % 256, g.re % 256]) :=
    ⟨HA.out.on hlit, hown0, fun k hk => by have := HA.out.size; simp [Value.ownBlock] at hk; omega, fun k hk => ⟨fun e => by simp [Value.ownBlock] at e; simp at hk; omega, by simp at hk; simp; omega⟩⟩
  replace HB := Lib.hid (HB.out.on hlit); replace HC := Lib.hid (HC.out.on hlit); replace HD := Lib.hid (HD.out.on hlit)
  have c4b := HD.out.c4
  clear hlit hown0
  go_wp2_with (at_builtin; refine wpList_appS rfl _ _ rfl _ _ g.d rfl (by exact HG0.out.own) _ rfl (by exact HG.out.d.on HG0.out.aw) (by (try simp only [List.length_cons]); (try simp only [List.length_nil]); omega) ?_; refine Hid.out ?_)
  refine Lib.hid ?_
  intro bv w6 hown hawx hmv
  obtain ⟨hg', hkeep⟩ := HG0.out.step hown hawx hmv
  have HGR : Hid (Gr w w6 [g1, g2, g3] bv (mrawP g)) := hg'
  replace HB : Hid (BoxX w6 g1 s) := (hkeep g1 (by simp)).trans HB.out
  replace HC : Hid (BoxX w6 g2 t) := (hkeep g2 (by simp)).trans HC.out
  replace HD : Hid (BoxM w6 g3 g (.slice da g.d.length dcap)) := (hkeep g3 (by simp)).trans HD.out
  clear hown hawx hmv hg' hkeep HG0 c0 c1 c2 c3 c4 c4b HA
  have c0 := HD.out.c0
  rw [HV.out] at c0
  obtain ⟨gb, bc, hbv, hbc⟩ := HGR.out.own.block (by intro h; have := HRL.out; rw [h] at this; simp at this; omega)
  subst hbv
  have hgb := HGR.out.new gb rfl
  have hrl : (mrawP g).length = 8 + g.d.length := HRL.out
  go_wp2_with (first | (refine wpList_loadX rfl _ rfl g1 rfl s (by exact HB.out) HS.out ?_) | (refine wpList_loadX rfl _ rfl g2 rfl t (by exact HC.out) HT.out ?_))
  refine (KC.out _ (some ⟨gb, 0, none⟩) bc _ (by exact HGR.out.own.row' (by omega) HRB.out) (by first | rfl | omega)).mono ?_
  rintro E w7 ⟨rfl, haw⟩
  have HG7 := Lib.hid (HGR.out.on haw)
  clear haw KC HGR HB HC HD c0
  obtain ⟨d2, f2⟩ := HG7.out.own.cells 2 (by omega)
  have ho3 := HG7.out.own.set rfl 2 (x / 256)
  obtain ⟨d3, f3⟩ := ho3.cells 3 (by simp; omega)
  have hset := ho3.set (by simp) 3 (x % 256)
  have haw2 := (HG7.out.aw.setCell (p := ⟨gb, 2, none⟩) (.inr hgb) (.int .u8 (x / 256))).setCell (p := ⟨gb, 3, none⟩) (.inr hgb) (.int .u8 (x % 256))
  have HSET := Lib.hid hset; have HAW := Lib.hid haw2
  have HNW := Lib.hid HG7.out.new
  have i2 : (2 : Int) < ((mrawP g).length : Int) := by omega
  have i3 : (3 : Int) < ((mrawP g).length : Int) := by omega
  clear ho3 hset haw2 HG7
  go_upto_region 10 with fail
  clear d2 f2
  generalize w7.setCell ⟨gb, 2, none⟩ (.int .u8 (x / 256)) = w8 at *
  go_wp2_with fail
  go_ret2
  exact ⟨_, rfl, by rw [HLY.out]; have h := HSET.out; rw [HRL.out] at h; exact h, by have h := HNW.out; rw [HRL.out] at h; exact h, HAW.out⟩
theorem rbuild_no1_6 (s t : Ax) (g : Mg) (dv : Value) (w : World) (hs : WfA s) (ht : WfA t) (hg : Dam w g dv) (hv : g.v = 6) (z1 : adrvP s g.v = false) :
    Calls Try.prog 15 #[.agg (csA s.v s.l), .agg (csA t.v t.l), .agg (csM g dv)] w fun E w' => BuildOut w ([], 1) E w' := by
  have HS := Lib.hid hs
  have HT := Lib.hid ht
  have HG := Lib.hid hg
  have K1 : Hid (∀ w, Calls Try.prog 36 #[.agg (csA s.v s.l), .int .i64 6] w fun e w' => e = .returned (.bool false) ∧ Away [] w w') := fun w => by rw [← z1, hv]; exact raddress_c s 6 w hs
  have HV := Lib.hid hv
  clear hv z1
  clear hs ht hg
  go_enter Try.func15, Try.ntmps15
  go_wp2_with (refine wpList_box24 rfl _ rfl s rfl ?_; refine Hid.out ?_)
  refine Lib.hid ?_
  intro g1 w1 hg1 hb haw
  have HA := Lib.hid haw; have HB := Lib.hid hb
  clear hb haw
  go_wp2_with (refine wpList_box24 rfl _ rfl t rfl ?_; refine Hid.out ?_)
  refine Lib.hid ?_
  intro g2 w2 hg2 hb haw
  replace HA := Lib.hid (HA.out.on haw); replace HB := Lib.hid (HB.out.on haw); have HC := Lib.hid hb
  clear hb haw
  go_wp2_with (refine wpList_boxM rfl _ rfl g dv rfl ?_; refine Hid.out ?_)
  refine Lib.hid ?_
  intro g3 w3 hg3 hb haw
  replace HA := Lib.hid (HA.out.on haw); replace HB := Lib.hid (HB.out.on haw); replace HC := Lib.hid (HC.out.on haw); have HD := Lib.hid hb
  clear hb haw
  have c0 := HD.out.c0
  rw [HV.out] at c0
  go_wp2_with (first | (refine wpList_loadX rfl _ rfl g1 rfl s (by exact HB.out) HS.out ?_) | (refine wpList_loadX rfl _ rfl g2 rfl t (by exact HC.out) HT.out ?_))
  refine (K1.out _).mono ?_
  rintro E w4 ⟨rfl, haw⟩
  replace HA := Lib.hid (HA.out.on haw); replace HB := Lib.hid (HB.out.on haw); replace HC := Lib.hid (HC.out.on haw); replace HD := Lib.hid (HD.out.on haw)
  clear haw K1 c0
  have c0 := HD.out.c0; have c1 := HD.out.c1; have c2 := HD.out.c2
  rw [HV.out] at c0
  go_wp2_with fail
  go_ret2
  exact BuildOut.no 1 HA.out
theorem rbuild_no2_6 (s t : Ax) (g : Mg) (dv : Value) (w : World) (hs : WfA s) (ht : WfA t) (hg : Dam w g dv) (hv : g.v = 6) (z1 : adrvP s g.v = true) (z2 : adrvP t g.v = false) :
    Calls Try.prog 15 #[.agg (csA s.v s.l), .agg (csA t.v t.l), .agg (csM g dv)] w fun E w' => BuildOut w ([], 1) E w' := by
  have HS := Lib.hid hs
  have HT := Lib.hid ht
  have HG := Lib.hid hg
  have K1 : Hid (∀ w, Calls Try.prog 36 #[.agg (csA s.v s.l), .int .i64 6] w fun e w' => e = .returned (.bool true) ∧ Away [] w w') := fun w => by rw [← z1, hv]; exact raddress_c s 6 w hs
  have K2 : Hid (∀ w, Calls Try.prog 36 #[.agg (csA t.v t.l), .int .i64 6] w fun e w' => e = .returned (.bool false) ∧ Away [] w w') := fun w => by rw [← z2, hv]; exact raddress_c t 6 w ht
  have HV := Lib.hid hv
  clear hv z1 z2
  clear hs ht hg
  go_enter Try.func15, Try.ntmps15
  go_wp2_with (refine wpList_box24 rfl _ rfl s rfl ?_; refine Hid.out ?_)
  refine Lib.hid ?_
  intro g1 w1 hg1 hb haw
  have HA := Lib.hid haw; have HB := Lib.hid hb
  clear hb haw
  go_wp2_with (refine wpList_box24 rfl _ rfl t rfl ?_; refine Hid.out ?_)
  refine Lib.hid ?_
  intro g2 w2 hg2 hb haw
  replace HA := Lib.hid (HA.out.on haw); replace HB := Lib.hid (HB.out.on haw); have HC := Lib.hid hb
  clear hb haw
  go_wp2_with (refine wpList_boxM rfl _ rfl g dv rfl ?_; refine Hid.out ?_)
  refine Lib.hid ?_
  intro g3 w3 hg3 hb haw
  replace HA := Lib.hid (HA.out.on haw); replace HB := Lib.hid (HB.out.on haw); replace HC := Lib.hid (HC.out.on haw); have HD := Lib.hid hb
  clear hb haw
  have c0 := HD.out.c0
  rw [HV.out] at c0
  go_wp2_with (first | (refine wpList_loadX rfl _ rfl g1 rfl s (by exact HB.out) HS.out ?_) | (refine wpList_loadX rfl _ rfl g2 rfl t (by exact HC.out) HT.out ?_))
  refine (K1.out _).mono ?_
  rintro E w4 ⟨rfl, haw⟩
  replace HA := Lib.hid (HA.out.on haw); replace HB := Lib.hid (HB.out.on haw); replace HC := Lib.hid (HC.out.on haw); replace HD := Lib.hid (HD.out.on haw)
  clear haw K1 c0
  have c0 := HD.out.c0; have c1 := HD.out.c1; have c2 := HD.out.c2
  rw [HV.out] at c0
  go_wp2_with (first | (refine wpList_loadX rfl _ rfl g1 rfl s (by exact HB.out) HS.out ?_) | (refine wpList_loadX rfl _ rfl g2 rfl t (by exact HC.out) HT.out ?_))
  refine (K2.out _).mono ?_
  rintro E w5 ⟨rfl, haw⟩
  replace HA := Lib.hid (HA.out.on haw); replace HB := Lib.hid (HB.out.on haw); replace HC := Lib.hid (HC.out.on haw); replace HD := Lib.hid (HD.out.on haw)
  clear haw K2 c0
  have c0 := HD.out.c0; have c1 := HD.out.c1; have c2 := HD.out.c2
  rw [HV.out] at c0
  go_wp2_with fail
  go_ret2
  exact BuildOut.no 1 HA.out
theorem rbuild_no3_6 (s t : Ax) (g : Mg) (dv : Value) (w : World) (hs : WfA s) (ht : WfA t) (hg : Dam w g dv) (hv : g.v = 6) (z1 : adrvP s g.v = true) (z2 : adrvP t g.v = true) (h : g.ty < 0) :
    Calls Try.prog 15 #[.agg (csA s.v s.l), .agg (csA t.v t.l), .agg (csM g dv)] w fun E w' => BuildOut w ([], 1) E w' := by
  have HS := Lib.hid hs
  have HT := Lib.hid ht
  have HG := Lib.hid hg
  have K1 : Hid (∀ w, Calls Try.prog 36 #[.agg (csA s.v s.l), .int .i64 6] w fun e w' => e = .returned (.bool true) ∧ Away [] w w') := fun w => by rw [← z1, hv]; exact raddress_c s 6 w hs
  have K2 : Hid (∀ w, Calls Try.prog 36 #[.agg (csA t.v t.l), .int .i64 6] w fun e w' => e = .returned (.bool true) ∧ Away [] w w') := fun w => by rw [← z2, hv]; exact raddress_c t 6 w ht
  have HV := Lib.hid hv
  clear hv z1 z2
  clear hs ht hg
  go_enter Try.func15, Try.ntmps15
  go_wp2_with (refine wpList_box24 rfl _ rfl s rfl ?_; refine Hid.out ?_)
  refine Lib.hid ?_
  intro g1 w1 hg1 hb haw
  have HA := Lib.hid haw; have HB := Lib.hid hb
  clear hb haw
  go_wp2_with (refine wpList_box24 rfl _ rfl t rfl ?_; refine Hid.out ?_)
  refine Lib.hid ?_
  intro g2 w2 hg2 hb haw
  replace HA := Lib.hid (HA.out.on haw); replace HB := Lib.hid (HB.out.on haw); have HC := Lib.hid hb
  clear hb haw
  go_wp2_with (refine wpList_boxM rfl _ rfl g dv rfl ?_; refine Hid.out ?_)
  refine Lib.hid ?_
  intro g3 w3 hg3 hb haw
  replace HA := Lib.hid (HA.out.on haw); replace HB := Lib.hid (HB.out.on haw); replace HC := Lib.hid (HC.out.on haw); have HD := Lib.hid hb
  clear hb haw
  have c0 := HD.out.c0
  rw [HV.out] at c0
  go_wp2_with (first | (refine wpList_loadX rfl _ rfl g1 rfl s (by exact HB.out) HS.out ?_) | (refine wpList_loadX rfl _ rfl g2 rfl t (by exact HC.out) HT.out ?_))
  refine (K1.out _).mono ?_
  rintro E w4 ⟨rfl, haw⟩
  replace HA := Lib.hid (HA.out.on haw); replace HB := Lib.hid (HB.out.on haw); replace HC := Lib.hid (HC.out.on haw); replace HD := Lib.hid (HD.out.on haw)
  clear haw K1 c0
  have c0 := HD.out.c0; have c1 := HD.out.c1; have c2 := HD.out.c2
  rw [HV.out] at c0
  go_wp2_with (first | (refine wpList_loadX rfl _ rfl g1 rfl s (by exact HB.out) HS.out ?_) | (refine wpList_loadX rfl _ rfl g2 rfl t (by exact HC.out) HT.out ?_))
  refine (K2.out _).mono ?_
  rintro E w5 ⟨rfl, haw⟩
  replace HA := Lib.hid (HA.out.on haw); replace HB := Lib.hid (HB.out.on haw); replace HC := Lib.hid (HC.out.on haw); replace HD := Lib.hid (HD.out.on haw)
  clear haw K2 c0
  have c0 := HD.out.c0; have c1 := HD.out.c1; have c2 := HD.out.c2
  rw [HV.out] at c0
  go_wp2_with fail
  go_ret2
  exact BuildOut.no 1 HA.out
theorem rbuild_no4_6 (s t : Ax) (g : Mg) (dv : Value) (w : World) (hs : WfA s) (ht : WfA t) (hg : Dam w g dv) (hv : g.v = 6) (z1 : adrvP s g.v = true) (z2 : adrvP t g.v = true) (a0 : 0 ≤ g.ty) (h : 255 < g.ty) :
    Calls Try.prog 15 #[.agg (csA s.v s.l), .agg (csA t.v t.l), .agg (csM g dv)] w fun E w' => BuildOut w ([], 1) E w' := by
  have HS := Lib.hid hs
  have HT := Lib.hid ht
  have HG := Lib.hid hg
  have K1 : Hid (∀ w, Calls Try.prog 36 #[.agg (csA s.v s.l), .int .i64 6] w fun e w' => e = .returned (.bool true) ∧ Away [] w w') := fun w => by rw [← z1, hv]; exact raddress_c s 6 w hs
  have K2 : Hid (∀ w, Calls Try.prog 36 #[.agg (csA t.v t.l), .int .i64 6] w fun e w' => e = .returned (.bool true) ∧ Away [] w w') := fun w => by rw [← z2, hv]; exact raddress_c t 6 w ht
  have HV := Lib.hid hv
  clear hv z1 z2
  clear hs ht hg
  go_enter Try.func15, Try.ntmps15
  go_wp2_with (refine wpList_box24 rfl _ rfl s rfl ?_; refine Hid.out ?_)
  refine Lib.hid ?_
  intro g1 w1 hg1 hb haw
  have HA := Lib.hid haw; have HB := Lib.hid hb
  clear hb haw
  go_wp2_with (refine wpList_box24 rfl _ rfl t rfl ?_; refine Hid.out ?_)
  refine Lib.hid ?_
  intro g2 w2 hg2 hb haw
  replace HA := Lib.hid (HA.out.on haw); replace HB := Lib.hid (HB.out.on haw); have HC := Lib.hid hb
  clear hb haw
  go_wp2_with (refine wpList_boxM rfl _ rfl g dv rfl ?_; refine Hid.out ?_)
  refine Lib.hid ?_
  intro g3 w3 hg3 hb haw
  replace HA := Lib.hid (HA.out.on haw); replace HB := Lib.hid (HB.out.on haw); replace HC := Lib.hid (HC.out.on haw); have HD := Lib.hid hb
  clear hb haw
  have c0 := HD.out.c0
  rw [HV.out] at c0
  go_wp2_with (first | (refine wpList_loadX rfl _ rfl g1 rfl s (by exact HB.out) HS.out ?_) | (refine wpList_loadX rfl _ rfl g2 rfl t (by exact HC.out) HT.out ?_))
  refine (K1.out _).mono ?_
  rintro E w4 ⟨rfl, haw⟩
  replace HA := Lib.hid (HA.out.on haw); replace HB := Lib.hid (HB.out.on haw); replace HC := Lib.hid (HC.out.on haw); replace HD := Lib.hid (HD.out.on haw)
  clear haw K1 c0
  have c0 := HD.out.c0; have c1 := HD.out.c1; have c2 := HD.out.c2
  rw [HV.out] at c0
  go_wp2_with (first | (refine wpList_loadX rfl _ rfl g1 rfl s (by exact HB.out) HS.out ?_) | (refine wpList_loadX rfl _ rfl g2 rfl t (by exact HC.out) HT.out ?_))
  refine (K2.out _).mono ?_
  rintro E w5 ⟨rfl, haw⟩
  replace HA := Lib.hid (HA.out.on haw); replace HB := Lib.hid (HB.out.on haw); replace HC := Lib.hid (HC.out.on haw); replace HD := Lib.hid (HD.out.on haw)
  clear haw K2 c0
  have c0 := HD.out.c0; have c1 := HD.out.c1; have c2 := HD.out.c2
  rw [HV.out] at c0
  go_wp2_with fail
  go_ret2
  exact BuildOut.no 1 HA.out
theorem rbuild_no5_6 (s t : Ax) (g : Mg) (dv : Value) (w : World) (hs : WfA s) (ht : WfA t) (hg : Dam w g dv) (hv : g.v = 6) (z1 : adrvP s g.v = true) (z2 : adrvP t g.v = true) (a0 : 0 ≤ g.ty) (a1 : g.ty ≤ 255) (h : g.co < 0) :
    Calls Try.prog 15 #[.agg (csA s.v s.l), .agg (csA t.v t.l), .agg (csM g dv)] w fun E w' => BuildOut w ([], 1) E w' := by
  have HS := Lib.hid hs
  have HT := Lib.hid ht
  have HG := Lib.hid hg
  have K1 : Hid (∀ w, Calls Try.prog 36 #[.agg (csA s.v s.l), .int .i64 6] w fun e w' => e = .returned (.bool true) ∧ Away [] w w') := fun w => by rw [← z1, hv]; exact raddress_c s 6 w hs
  have K2 : Hid (∀ w, Calls Try.prog 36 #[.agg (csA t.v t.l), .int .i64 6] w fun e w' => e = .returned (.bool true) ∧ Away [] w w') := fun w => by rw [← z2, hv]; exact raddress_c t 6 w ht
  have HV := Lib.hid hv
  clear hv z1 z2
  clear hs ht hg
  go_enter Try.func15, Try.ntmps15
  go_wp2_with (refine wpList_box24 rfl _ rfl s rfl ?_; refine Hid.out ?_)
  refine Lib.hid ?_
  intro g1 w1 hg1 hb haw
  have HA := Lib.hid haw; have HB := Lib.hid hb
  clear hb haw
  go_wp2_with (refine wpList_box24 rfl _ rfl t rfl ?_; refine Hid.out ?_)
  refine Lib.hid ?_
  intro g2 w2 hg2 hb haw
  replace HA := Lib.hid (HA.out.on haw); replace HB := Lib.hid (HB.out.on haw); have HC := Lib.hid hb
  clear hb haw
  go_wp2_with (refine wpList_boxM rfl _ rfl g dv rfl ?_; refine Hid.out ?_)
  refine Lib.hid ?_
  intro g3 w3 hg3 hb haw
  replace HA := Lib.hid (HA.out.on haw); replace HB := Lib.hid (HB.out.on haw); replace HC := Lib.hid (HC.out.on haw); have HD := Lib.hid hb
  clear hb haw
  have c0 := HD.out.c0
  rw [HV.out] at c0
  go_wp2_with (first | (refine wpList_loadX rfl _ rfl g1 rfl s (by exact HB.out) HS.out ?_) | (refine wpList_loadX rfl _ rfl g2 rfl t (by exact HC.out) HT.out ?_))
  refine (K1.out _).mono ?_
  rintro E w4 ⟨rfl, haw⟩
  replace HA := Lib.hid (HA.out.on haw); replace HB := Lib.hid (HB.out.on haw); replace HC := Lib.hid (HC.out.on haw); replace HD := Lib.hid (HD.out.on haw)
  clear haw K1 c0
  have c0 := HD.out.c0; have c1 := HD.out.c1; have c2 := HD.out.c2
  rw [HV.out] at c0
  go_wp2_with (first | (refine wpList_loadX rfl _ rfl g1 rfl s (by exact HB.out) HS.out ?_) | (refine wpList_loadX rfl _ rfl g2 rfl t (by exact HC.out) HT.out ?_))
  refine (K2.out _).mono ?_
  rintro E w5 ⟨rfl, haw⟩
  replace HA := Lib.hid (HA.out.on haw); replace HB := Lib.hid (HB.out.on haw); replace HC := Lib.hid (HC.out.on haw); replace HD := Lib.hid (HD.out.on haw)
  clear haw K2 c0
  have c0 := HD.out.c0; have c1 := HD.out.c1; have c2 := HD.out.c2
  rw [HV.out] at c0
  go_wp2_with fail
  go_ret2
  exact BuildOut.no 1 HA.out
theorem rbuild_no6_6 (s t : Ax) (g : Mg) (dv : Value) (w : World) (hs : WfA s) (ht : WfA t) (hg : Dam w g dv) (hv : g.v = 6) (z1 : adrvP s g.v = true) (z2 : adrvP t g.v = true) (a0 : 0 ≤ g.ty) (a1 : g.ty ≤ 255) (b0 : 0 ≤ g.co) (h : 255 < g.co) :
    Calls Try.prog 15 #[.agg (csA s.v s.l), .agg (csA t.v t.l), .agg (csM g dv)] w fun E w' => BuildOut w ([], 1) E w' := by
  have HS := Lib.hid hs
  have HT := Lib.hid ht
  have HG := Lib.hid hg
  have K1 : Hid (∀ w, Calls Try.prog 36 #[.agg (csA s.v s.l), .int .i64 6] w fun e w' => e = .returned (.bool true) ∧ Away [] w w') := fun w => by rw [← z1, hv]; exact raddress_c s 6 w hs
  have K2 : Hid (∀ w, Calls Try.prog 36 #[.agg (csA t.v t.l), .int .i64 6] w fun e w' => e = .returned (.bool true) ∧ Away [] w w') := fun w => by rw [← z2, hv]; exact raddress_c t 6 w ht
  have HV := Lib.hid hv
  clear hv z1 z2
  clear hs ht hg
  go_enter Try.func15, Try.ntmps15
  go_wp2_with (refine wpList_box24 rfl _ rfl s rfl ?_; refine Hid.out ?_)
  refine Lib.hid ?_
  intro g1 w1 hg1 hb haw
  have HA := Lib.hid haw; have HB := Lib.hid hb
  clear hb haw
  go_wp2_with (refine wpList_box24 rfl _ rfl t rfl ?_; refine Hid.out ?_)
  refine Lib.hid ?_
  intro g2 w2 hg2 hb haw
  replace HA := Lib.hid (HA.out.on haw); replace HB := Lib.hid (HB.out.on haw); have HC := Lib.hid hb
  clear hb haw
  go_wp2_with (refine wpList_boxM rfl _ rfl g dv rfl ?_; refine Hid.out ?_)
  refine Lib.hid ?_
  intro g3 w3 hg3 hb haw
  replace HA := Lib.hid (HA.out.on haw); replace HB := Lib.hid (HB.out.on haw); replace HC := Lib.hid (HC.out.on haw); have HD := Lib.hid hb
  clear hb haw
  have c0 := HD.out.c0
  rw [HV.out] at c0
  go_wp2_with (first | (refine wpList_loadX rfl _ rfl g1 rfl s (by exact HB.out) HS.out ?_) | (refine wpList_loadX rfl _ rfl g2 rfl t (by exact HC.out) HT.out ?_))
  refine (K1.out _).mono ?_
  rintro E w4 ⟨rfl, haw⟩
  replace HA := Lib.hid (HA.out.on haw); replace HB := Lib.hid (HB.out.on haw); replace HC := Lib.hid (HC.out.on haw); replace HD := Lib.hid (HD.out.on haw)
  clear haw K1 c0
  have c0 := HD.out.c0; have c1 := HD.out.c1; have c2 := HD.out.c2
  rw [HV.out] at c0
  go_wp2_with (first | (refine wpList_loadX rfl _ rfl g1 rfl s (by exact HB.out) HS.out ?_) | (refine wpList_loadX rfl _ rfl g2 rfl t (by exact HC.out) HT.out ?_))
  refine (K2.out _).mono ?_
  rintro E w5 ⟨rfl, haw⟩
  replace HA := Lib.hid (HA.out.on haw); replace HB := Lib.hid (HB.out.on haw); replace HC := Lib.hid (HC.out.on haw); replace HD := Lib.hid (HD.out.on haw)
  clear haw K2 c0
  have c0 := HD.out.c0; have c1 := HD.out.c1; have c2 := HD.out.c2
  rw [HV.out] at c0
  go_wp2_with fail
  go_ret2
  exact BuildOut.no 1 HA.out
theorem rbuild_long_6 (s t : Ax) (g : Mg) (dv : Value) (w : World) (hs : WfA s) (ht : WfA t) (hg : Dam w g dv) (hv : g.v = 6) (z1 : adrvP s g.v = true) (z2 : adrvP t g.v = true) (a0 : 0 ≤ g.ty) (a1 : g.ty ≤ 255) (b0 : 0 ≤ g.co) (b1 : g.co ≤ 255) (hr : mostP g.v - 8 < g.d.length) :
    Calls Try.prog 15 #[.agg (csA s.v s.l), .agg (csA t.v t.l), .agg (csM g dv)] w fun E w' => BuildOut w ([], 3) E w' := by
  have HS := Lib.hid hs
  have HT := Lib.hid ht
  have HG := Lib.hid hg
  have K1 : Hid (∀ w, Calls Try.prog 36 #[.agg (csA s.v s.l), .int .i64 6] w fun e w' => e = .returned (.bool true) ∧ Away [] w w') := fun w => by rw [← z1, hv]; exact raddress_c s 6 w hs
  have K2 : Hid (∀ w, Calls Try.prog 36 #[.agg (csA t.v t.l), .int .i64 6] w fun e w' => e = .returned (.bool true) ∧ Away [] w w') := fun w => by rw [← z2, hv]; exact raddress_c t 6 w ht
  have HV := Lib.hid hv
  clear hv z1 z2
  clear hs ht hg
  go_enter Try.func15, Try.ntmps15
  go_wp2_with (refine wpList_box24 rfl _ rfl s rfl ?_; refine Hid.out ?_)
  refine Lib.hid ?_
  intro g1 w1 hg1 hb haw
  have HA := Lib.hid haw; have HB := Lib.hid hb
  clear hb haw
  go_wp2_with (refine wpList_box24 rfl _ rfl t rfl ?_; refine Hid.out ?_)
  refine Lib.hid ?_
  intro g2 w2 hg2 hb haw
  replace HA := Lib.hid (HA.out.on haw); replace HB := Lib.hid (HB.out.on haw); have HC := Lib.hid hb
  clear hb haw
  go_wp2_with (refine wpList_boxM rfl _ rfl g dv rfl ?_; refine Hid.out ?_)
  refine Lib.hid ?_
  intro g3 w3 hg3 hb haw
  replace HA := Lib.hid (HA.out.on haw); replace HB := Lib.hid (HB.out.on haw); replace HC := Lib.hid (HC.out.on haw); have HD := Lib.hid hb
  clear hb haw
  have c0 := HD.out.c0
  rw [HV.out] at c0
  go_wp2_with (first | (refine wpList_loadX rfl _ rfl g1 rfl s (by exact HB.out) HS.out ?_) | (refine wpList_loadX rfl _ rfl g2 rfl t (by exact HC.out) HT.out ?_))
  refine (K1.out _).mono ?_
  rintro E w4 ⟨rfl, haw⟩
  replace HA := Lib.hid (HA.out.on haw); replace HB := Lib.hid (HB.out.on haw); replace HC := Lib.hid (HC.out.on haw); replace HD := Lib.hid (HD.out.on haw)
  clear haw K1 c0
  have c0 := HD.out.c0; have c1 := HD.out.c1; have c2 := HD.out.c2
  rw [HV.out] at c0
  go_wp2_with (first | (refine wpList_loadX rfl _ rfl g1 rfl s (by exact HB.out) HS.out ?_) | (refine wpList_loadX rfl _ rfl g2 rfl t (by exact HC.out) HT.out ?_))
  refine (K2.out _).mono ?_
  rintro E w5 ⟨rfl, haw⟩
  replace HA := Lib.hid (HA.out.on haw); replace HB := Lib.hid (HB.out.on haw); replace HC := Lib.hid (HC.out.on haw); replace HD := Lib.hid (HD.out.on haw)
  clear haw K2 c0
  have c0 := HD.out.c0; have c1 := HD.out.c1; have c2 := HD.out.c2
  rw [HV.out] at c0
  obtain ⟨da, dcap, hdv, hdc⟩ : ∃ a c, dv = .slice a g.d.length c ∧ g.d.length ≤ c := by obtain ⟨a, c, h, h2, _⟩ := HG.out.d; exact ⟨a, c, h, h2⟩
  subst hdv
  have hdl := HG.out.wf.dn
  go_upto_region 3 with fail
  have HCL : Hid (Away [] w w5.drew ∧ BoxX w5.drew g1 s ∧ BoxX w5.drew g2 t ∧ BoxM w5.drew g3 g (.slice da g.d.length dcap)) := ⟨HA.out.drew, HB.out, HC.out, HD.out⟩
  obtain ⟨rm0, rm1⟩ := most_bd 6
  have KR : Hid (∀ W, (Away [] w W ∧ BoxX W g1 s ∧ BoxX W g2 t ∧ BoxM W g3 g (.slice da g.d.length dcap)) → Calls Try.prog 37 #[.int .i64 6] W fun e w' => e = .returned (.int .i64 (mostP 6)) ∧ (Away [] w w' ∧ BoxX w' g1 s ∧ BoxX w' g2 t ∧ BoxM w' g3 g (.slice da g.d.length dcap))) :=
    fun W h => (rmost_c 6 W).mono fun e w' k => ⟨k.1, by rw [k.2]; exact h⟩
  rw [HV.out] at hr
  generalize mostP 6 = rm at *
  refine wp_region_cls (C := fun w' => Away [] w w' ∧ BoxX w' g1 s ∧ BoxX w' g2 t ∧ BoxM w' g3 g (.slice da g.d.length dcap)) (by kernel_rfl) (by kernel_rfl) HCL.out ?_
  go_big_quiet_want; (refine quiet_val ?_ ?_ ?_; rotate_left; (intro w; go_simp; rfl); go_simp; go_big_quiet_on)
  go_big_quiet_want; refine quiet_ld _ rfl (ad := ⟨g3, 4, none⟩) rfl (fun w' h => ldB h.2.2.2.c4) ?_; go_simp; go_big_quiet_on
  go_big_quiet_want; (refine quiet_val ?_ ?_ ?_; rotate_left; (intro w; go_simp; rfl); go_simp; go_big_quiet_on)
  go_big_quiet_want; (refine quiet_val ?_ ?_ ?_; rotate_left; (intro w; go_simp; rfl); go_simp; go_big_quiet_on)
  go_big_quiet_want; refine quiet_ld _ rfl (ad := ⟨g3, 0, none⟩) rfl (fun w' h => ld3 (by have := h.2.2.2.c0; rwa [HV.out] at this)) ?_; go_simp; go_big_quiet_on
  go_big_quiet_want; refine quiet_call 37 #[.int .i64 6] (.int .i64 rm) ?_ KR.out ?_
  · intro w; go_simp; done
  go_simp; go_big_quiet_on
  go_big_quiet_want; (refine quiet_val ?_ ?_ ?_; rotate_left; (intro w; go_simp; rfl); go_simp; go_big_quiet_on)
  go_big_quiet_want; (refine quiet_val ?_ ?_ ?_; rotate_left; (intro w; go_simp; rfl); go_simp; go_big_quiet_on)
  refine wpQuiet_nil ?_
  intro V hV
  rw [show IntKind.i64.wrap (rm - 8) = rm - 8 from IntWalk.i64_in _ ⟨by omega, by omega⟩]
  replace HA := Lib.hid hV.1; replace HB := Lib.hid hV.2.1; replace HC := Lib.hid hV.2.2.1; replace HD := Lib.hid hV.2.2.2
  clear hV KR HCL c0 c1 c2
  have hl1 := HB.out.lt; have hl2 := HC.out.lt; have hl3 := HD.out.lt
  have c0 := HD.out.c0; have c1 := HD.out.c1; have c2 := HD.out.c2; have c3 := HD.out.c3; have c4 := HD.out.c4
  rw [HV.out] at c0
  go_wp2_with fail
  go_ret2
  exact BuildOut.no 3 HA.out
theorem rbuild_yes_6 (s t : Ax) (g : Mg) (dv : Value) (w : World) (hs : WfA s) (ht : WfA t) (hg : Dam w g dv) (hv : g.v = 6) (z1 : adrvP s g.v = true) (z2 : adrvP t g.v = true) (a0 : 0 ≤ g.ty) (a1 : g.ty ≤ 255) (b0 : 0 ≤ g.co) (b1 : g.co ≤ 255) (hr : (g.d.length : Int) ≤ mostP g.v - 8) :
    Calls Try.prog 15 #[.agg (csA s.v s.l), .agg (csA t.v t.l), .agg (csM g dv)] w fun E w' => BuildOut w (mlayP s t g, 0) E w' := by
  have HS := Lib.hid hs
  have HT := Lib.hid ht
  have HG := Lib.hid hg
  have hrm0 := most_bd g.v
  have hsv : s.v = g.v := adrv_ne z1
  have HF : Hid (FitM s g) := ⟨hsv.symm, a0, a1, b0, b1, hg.wf.re0, hg.wf.re1, by rw [hsv]; exact hr, hg.wf.d⟩
  have HRL := Lib.hid (mraw_len g)
  have HRB := Lib.hid (mraw_bytes HF.out)
  have hl16 : (mrawP g).length ≤ 65535 := by rw [mraw_len]; omega
  obtain ⟨x, hx⟩ : ∃ x, x = mckP s t (mrawP g) := ⟨_, rfl⟩
  obtain ⟨x0, x1⟩ := mck_bd hs ht HRB.out hl16
  have KC : Hid (∀ W a cap n, Row W a (mrawP g) → n = (mrawP g).length → Calls Try.prog 38 #[.agg (csA s.v s.l), .agg (csA t.v t.l), .int .i64 6, .slice a n cap] W fun E w' => E = .returned (.int .i64 x) ∧ Away [] W w') := fun W a cap n h1 h3 => by subst h3; rw [hx]; exact rchecksum_c s t a (mrawP g) cap W hs ht (by omega) h1 hl16 (by rw [mraw_len]; omega) 6 (by omega)
  rw [← hx] at x0 x1
  have HLY : Hid (mlayP s t g = ((mrawP g).set 2 (x / 256)).set 3 (x % 256)) := by rw [hx]; rfl
  clear hx hrm0 hl16 hsv
  have K1 : Hid (∀ w, Calls Try.prog 36 #[.agg (csA s.v s.l), .int .i64 6] w fun e w' => e = .returned (.bool true) ∧ Away [] w w') := fun w => by rw [← z1, hv]; exact raddress_c s 6 w hs
  have K2 : Hid (∀ w, Calls Try.prog 36 #[.agg (csA t.v t.l), .int .i64 6] w fun e w' => e = .returned (.bool true) ∧ Away [] w w') := fun w => by rw [← z2, hv]; exact raddress_c t 6 w ht
  have HV := Lib.hid hv
  clear hv z1 z2
  clear hs ht hg
  go_enter Try.func15, Try.ntmps15
  go_wp2_with (refine wpList_box24 rfl _ rfl s rfl ?_; refine Hid.out ?_)
  refine Lib.hid ?_
  intro g1 w1 hg1 hb haw
  have HA := Lib.hid haw; have HB := Lib.hid hb
  clear hb haw
  go_wp2_with (refine wpList_box24 rfl _ rfl t rfl ?_; refine Hid.out ?_)
  refine Lib.hid ?_
  intro g2 w2 hg2 hb haw
  replace HA := Lib.hid (HA.out.on haw); replace HB := Lib.hid (HB.out.on haw); have HC := Lib.hid hb
  clear hb haw
  go_wp2_with (refine wpList_boxM rfl _ rfl g dv rfl ?_; refine Hid.out ?_)
  refine Lib.hid ?_
  intro g3 w3 hg3 hb haw
  replace HA := Lib.hid (HA.out.on haw); replace HB := Lib.hid (HB.out.on haw); replace HC := Lib.hid (HC.out.on haw); have HD := Lib.hid hb
  clear hb haw
  have c0 := HD.out.c0
  rw [HV.out] at c0
  go_wp2_with (first | (refine wpList_loadX rfl _ rfl g1 rfl s (by exact HB.out) HS.out ?_) | (refine wpList_loadX rfl _ rfl g2 rfl t (by exact HC.out) HT.out ?_))
  refine (K1.out _).mono ?_
  rintro E w4 ⟨rfl, haw⟩
  replace HA := Lib.hid (HA.out.on haw); replace HB := Lib.hid (HB.out.on haw); replace HC := Lib.hid (HC.out.on haw); replace HD := Lib.hid (HD.out.on haw)
  clear haw K1 c0
  have c0 := HD.out.c0; have c1 := HD.out.c1; have c2 := HD.out.c2
  rw [HV.out] at c0
  go_wp2_with (first | (refine wpList_loadX rfl _ rfl g1 rfl s (by exact HB.out) HS.out ?_) | (refine wpList_loadX rfl _ rfl g2 rfl t (by exact HC.out) HT.out ?_))
  refine (K2.out _).mono ?_
  rintro E w5 ⟨rfl, haw⟩
  replace HA := Lib.hid (HA.out.on haw); replace HB := Lib.hid (HB.out.on haw); replace HC := Lib.hid (HC.out.on haw); replace HD := Lib.hid (HD.out.on haw)
  clear haw K2 c0
  have c0 := HD.out.c0; have c1 := HD.out.c1; have c2 := HD.out.c2
  rw [HV.out] at c0
  obtain ⟨da, dcap, hdv, hdc⟩ : ∃ a c, dv = .slice a g.d.length c ∧ g.d.length ≤ c := by obtain ⟨a, c, h, h2, _⟩ := HG.out.d; exact ⟨a, c, h, h2⟩
  subst hdv
  have hdl := HG.out.wf.dn
  go_upto_region 3 with fail
  have HCL : Hid (Away [] w w5.drew ∧ BoxX w5.drew g1 s ∧ BoxX w5.drew g2 t ∧ BoxM w5.drew g3 g (.slice da g.d.length dcap)) := ⟨HA.out.drew, HB.out, HC.out, HD.out⟩
  obtain ⟨rm0, rm1⟩ := most_bd 6
  have KR : Hid (∀ W, (Away [] w W ∧ BoxX W g1 s ∧ BoxX W g2 t ∧ BoxM W g3 g (.slice da g.d.length dcap)) → Calls Try.prog 37 #[.int .i64 6] W fun e w' => e = .returned (.int .i64 (mostP 6)) ∧ (Away [] w w' ∧ BoxX w' g1 s ∧ BoxX w' g2 t ∧ BoxM w' g3 g (.slice da g.d.length dcap))) :=
    fun W h => (rmost_c 6 W).mono fun e w' k => ⟨k.1, by rw [k.2]; exact h⟩
  rw [HV.out] at hr
  generalize mostP 6 = rm at *
  refine wp_region_cls (C := fun w' => Away [] w w' ∧ BoxX w' g1 s ∧ BoxX w' g2 t ∧ BoxM w' g3 g (.slice da g.d.length dcap)) (by kernel_rfl) (by kernel_rfl) HCL.out ?_
  go_big_quiet_want; (refine quiet_val ?_ ?_ ?_; rotate_left; (intro w; go_simp; rfl); go_simp; go_big_quiet_on)
  go_big_quiet_want; refine quiet_ld _ rfl (ad := ⟨g3, 4, none⟩) rfl (fun w' h => ldB h.2.2.2.c4) ?_; go_simp; go_big_quiet_on
  go_big_quiet_want; (refine quiet_val ?_ ?_ ?_; rotate_left; (intro w; go_simp; rfl); go_simp; go_big_quiet_on)
  go_big_quiet_want; (refine quiet_val ?_ ?_ ?_; rotate_left; (intro w; go_simp; rfl); go_simp; go_big_quiet_on)
  go_big_quiet_want; refine quiet_ld _ rfl (ad := ⟨g3, 0, none⟩) rfl (fun w' h => ld3 (by have := h.2.2.2.c0; rwa [HV.out] at this)) ?_; go_simp; go_big_quiet_on
  go_big_quiet_want; refine quiet_call 37 #[.int .i64 6] (.int .i64 rm) ?_ KR.out ?_
  · intro w; go_simp; done
  go_simp; go_big_quiet_on
  go_big_quiet_want; (refine quiet_val ?_ ?_ ?_; rotate_left; (intro w; go_simp; rfl); go_simp; go_big_quiet_on)
  go_big_quiet_want; (refine quiet_val ?_ ?_ ?_; rotate_left; (intro w; go_simp; rfl); go_simp; go_big_quiet_on)
  refine wpQuiet_nil ?_
  intro V hV
  rw [show IntKind.i64.wrap (rm - 8) = rm - 8 from IntWalk.i64_in _ ⟨by omega, by omega⟩]
  replace HA := Lib.hid hV.1; replace HB := Lib.hid hV.2.1; replace HC := Lib.hid hV.2.2.1; replace HD := Lib.hid hV.2.2.2
  clear hV KR HCL c0 c1 c2
  have hl1 := HB.out.lt; have hl2 := HC.out.lt; have hl3 := HD.out.lt
  have c0 := HD.out.c0; have c1 := HD.out.c1; have c2 := HD.out.c2; have c3 := HD.out.c3; have c4 := HD.out.c4
  rw [HV.out] at c0
  have re0 := HG.out.wf.re0; have re1 := HG.out.wf.re1
  have hlit := (Away.refl [] V).alloc (.cells (([g.ty, g.co, 0, 0, g.re / 16777216, g.re / 65536 % 256, g.re / 256 % 256, g.re % 256] : List Int).map (Value.int .u8)).toArray 5)
  have hown0 : Owns (V.alloc (.cells (([g.ty, g.co, 0, 0, g.re / 16777216, g.re / 65536 % 256, g.re / 256 % 256, g.re % 256] : List Int).map (Value.int .u8)).toArray 5)) (.slice (some ⟨V.heap.size, 0, none⟩) 8 8) [g.ty, g.co, 0, 0, g.re / 16777216, g.re / 65536 % 256, g.re / 256 % 256, g.re % 256] := World.ownsRow_lit V ((([g.ty, g.co, 0, 0, g.re / 16777216, g.re / 65536 % 256, g.re / 256 % 256, g.re % 256] : List Int).map (Value.int .u8)).toArray) 8 (Nat.zero_le _) (by decide) rfl
  have HG0 : Hid (Gr w (V.alloc (.cells (([g.ty, g.co, 0, 0, g.re / 16777216, g.re / 65536 % 256, g.re / 256 % 256, g.re % 256] : List Int).map (Value.int .u8)).toArray 5)) [g1, g2, g3] (.slice (some ⟨V.heap.size, 0, none⟩) 8 8) [g.ty, g.co, 0, 0, g.re / 16777216, g.re / 65536 % 256, g.re / 256 % 256, g.re % 256]) :=
    ⟨HA.out.on hlit, hown0, fun k hk => by have := HA.out.size; simp [Value.ownBlock] at hk; omega, fun k hk => ⟨fun e => by simp [Value.ownBlock] at e; simp at hk; omega, by simp at hk; simp; omega⟩⟩
  replace HB := Lib.hid (HB.out.on hlit); replace HC := Lib.hid (HC.out.on hlit); replace HD := Lib.hid (HD.out.on hlit)
  have c4b := HD.out.c4
  clear hlit hown0
  go_wp2_with (at_builtin; refine wpList_appS rfl _ _ rfl _ _ g.d rfl (by exact HG0.out.own) _ rfl (by exact HG.out.d.on HG0.out.aw) (by (try simp only [List.length_cons]); (try simp only [List.length_nil]); omega) ?_; refine Hid.out ?_)
  refine Lib.hid ?_
  intro bv w6 hown hawx hmv
  obtain ⟨hg', hkeep⟩ := HG0.out.step hown hawx hmv
  have HGR : Hid (Gr w w6 [g1, g2, g3] bv (mrawP g)) := hg'
  replace HB : Hid (BoxX w6 g1 s) := (hkeep g1 (by simp)).trans HB.out
  replace HC : Hid (BoxX w6 g2 t) := (hkeep g2 (by simp)).trans HC.out
  replace HD : Hid (BoxM w6 g3 g (.slice da g.d.length dcap)) := (hkeep g3 (by simp)).trans HD.out
  clear hown hawx hmv hg' hkeep HG0 c0 c1 c2 c3 c4 c4b HA
  have c0 := HD.out.c0
  rw [HV.out] at c0
  obtain ⟨gb, bc, hbv, hbc⟩ := HGR.out.own.block (by intro h; have := HRL.out; rw [h] at this; simp at this; omega)
  subst hbv
  have hgb := HGR.out.new gb rfl
  have hrl : (mrawP g).length = 8 + g.d.length := HRL.out
  go_wp2_with (first | (refine wpList_loadX rfl _ rfl g1 rfl s (by exact HB.out) HS.out ?_) | (refine wpList_loadX rfl _ rfl g2 rfl t (by exact HC.out) HT.out ?_))
  refine (KC.out _ (some ⟨gb, 0, none⟩) bc _ (by exact HGR.out.own.row' (by omega) HRB.out) (by first | rfl | omega)).mono ?_
  rintro E w7 ⟨rfl, haw⟩
  have HG7 := Lib.hid (HGR.out.on haw)
  clear haw KC HGR HB HC HD c0
  obtain ⟨d2, f2⟩ := HG7.out.own.cells 2 (by omega)
  have ho3 := HG7.out.own.set rfl 2 (x / 256)
  obtain ⟨d3, f3⟩ := ho3.cells 3 (by simp; omega)
  have hset := ho3.set (by simp) 3 (x % 256)
  have haw2 := (HG7.out.aw.setCell (p := ⟨gb, 2, none⟩) (.inr hgb) (.int .u8 (x / 256))).setCell (p := ⟨gb, 3, none⟩) (.inr hgb) (.int .u8 (x % 256))
  have HSET := Lib.hid hset; have HAW := Lib.hid haw2
  have HNW := Lib.hid HG7.out.new
  have i2 : (2 : Int) < ((mrawP g).length : Int) := by omega
  have i3 : (3 : Int) < ((mrawP g).length : Int) := by omega
  clear ho3 hset haw2 HG7
  go_upto_region 10 with fail
  clear d2 f2
  generalize w7.setCell ⟨gb, 2, none⟩ (.int .u8 (x / 256)) = w8 at *
  go_wp2_with fail
  go_ret2
  exact ⟨_, rfl, by rw [HLY.out]; have h := HSET.out; rw [HRL.out] at h; exact h, by have h := HNW.out; rw [HRL.out] at h; exact h, HAW.out⟩
theorem rbuild_c (s t : Ax) (g : Mg) (dv : Value) (w : World) (hs : WfA s) (ht : WfA t) (hg : Dam w g dv) :
    Calls Try.prog 15 #[.agg (csA s.v s.l), .agg (csA t.v t.l), .agg (csM g dv)] w fun E w' => BuildOut w (mbuildP s t g) E w' := by
  have hd := mok_doc s t g
  unfold mbuildP
  by_cases hv : g.v = 4
  · cases z1 : adrvP s g.v
    · rw [if_neg (by rw [hd, z1]; simp)]; exact rbuild_no1_4 s t g dv w hs ht hg hv z1
    · cases z2 : adrvP t g.v
      · rw [if_neg (by rw [hd, z2]; simp)]; exact rbuild_no2_4 s t g dv w hs ht hg hv z1 z2
      · by_cases a0 : 0 ≤ g.ty
        · by_cases a1 : g.ty ≤ 255
          · by_cases b0 : 0 ≤ g.co
            · by_cases b1 : g.co ≤ 255
              · rw [if_pos (by rw [hd, z1, z2]; simp [hv, octP, a0, a1, b0, b1])]
                by_cases hr : (g.d.length : Int) ≤ mostP g.v - 8
                · rw [if_pos hr]; exact rbuild_yes_4 s t g dv w hs ht hg hv z1 z2 a0 a1 b0 b1 hr
                · rw [if_neg hr]; exact rbuild_long_4 s t g dv w hs ht hg hv z1 z2 a0 a1 b0 b1 (by omega)
              · rw [if_neg (by rw [hd]; simp [octP, b1])]; exact rbuild_no6_4 s t g dv w hs ht hg hv z1 z2 a0 a1 b0 (by omega)
            · rw [if_neg (by rw [hd]; simp [octP, b0])]; exact rbuild_no5_4 s t g dv w hs ht hg hv z1 z2 a0 a1 (by omega)
          · rw [if_neg (by rw [hd]; simp [octP, a1])]; exact rbuild_no4_4 s t g dv w hs ht hg hv z1 z2 a0 (by omega)
        · rw [if_neg (by rw [hd]; simp [octP, a0])]; exact rbuild_no3_4 s t g dv w hs ht hg hv z1 z2 (by omega)
  · by_cases hv6 : g.v = 6
    · cases z1 : adrvP s g.v
      · rw [if_neg (by rw [hd, z1]; simp)]; exact rbuild_no1_6 s t g dv w hs ht hg hv6 z1
      · cases z2 : adrvP t g.v
        · rw [if_neg (by rw [hd, z2]; simp)]; exact rbuild_no2_6 s t g dv w hs ht hg hv6 z1 z2
        · by_cases a0 : 0 ≤ g.ty
          · by_cases a1 : g.ty ≤ 255
            · by_cases b0 : 0 ≤ g.co
              · by_cases b1 : g.co ≤ 255
                · rw [if_pos (by rw [hd, z1, z2]; simp [hv6, octP, a0, a1, b0, b1])]
                  by_cases hr : (g.d.length : Int) ≤ mostP g.v - 8
                  · rw [if_pos hr]; exact rbuild_yes_6 s t g dv w hs ht hg hv6 z1 z2 a0 a1 b0 b1 hr
                  · rw [if_neg hr]; exact rbuild_long_6 s t g dv w hs ht hg hv6 z1 z2 a0 a1 b0 b1 (by omega)
                · rw [if_neg (by rw [hd]; simp [octP, b1])]; exact rbuild_no6_6 s t g dv w hs ht hg hv6 z1 z2 a0 a1 b0 (by omega)
              · rw [if_neg (by rw [hd]; simp [octP, b0])]; exact rbuild_no5_6 s t g dv w hs ht hg hv6 z1 z2 a0 a1 (by omega)
            · rw [if_neg (by rw [hd]; simp [octP, a1])]; exact rbuild_no4_6 s t g dv w hs ht hg hv6 z1 z2 a0 (by omega)
          · rw [if_neg (by rw [hd]; simp [octP, a0])]; exact rbuild_no3_6 s t g dv w hs ht hg hv6 z1 z2 (by omega)
    · rw [if_neg (by rw [hd]; simp [hv, hv6])]; exact rbuild_not s t g dv w hs ht hg hv hv6
#print axioms rbuild_c
theorem risError_c (g : Mg) (gv : Value) (w : World) : Calls Try.prog 17 #[.agg (csM g gv)] w fun E w' => E = .returned (.bool (errP g)) ∧ Away [] w w' := by
  obtain ⟨v, ty, co, re, d⟩ := g
  by_cases h4 : v = 4
  · subst h4
    by_cases h3' : ty = 3
    · subst h3'
      rw [show errP ⟨4, 3, co, re, d⟩ = true from by simp [errP]]
      go_enter Try.func17, Try.ntmps17
      go_wp2_with (refine wpList_boxM rfl _ rfl ⟨4, 3, co, re, d⟩ _ rfl ?_; refine Hid.out ?_)
      refine Lib.hid ?_
      intro g1 w1 hl1 hb haw
      have HA := Lib.hid haw
      have b0 := hb.c0; have b1 := hb.c1
      simp only at b0 b1
      clear hb haw
      go_wp2_with fail
      go_ret
      exact ⟨rfl, HA.out⟩
    · have q3 : (ty == 3) = false := by simpa using h3'
      by_cases h4' : ty = 4
      · subst h4'
        rw [show errP ⟨4, 4, co, re, d⟩ = true from by simp [errP]]
        go_enter Try.func17, Try.ntmps17
        go_wp2_with (refine wpList_boxM rfl _ rfl ⟨4, 4, co, re, d⟩ _ rfl ?_; refine Hid.out ?_)
        refine Lib.hid ?_
        intro g1 w1 hl1 hb haw
        have HA := Lib.hid haw
        have b0 := hb.c0; have b1 := hb.c1
        simp only at b0 b1
        clear hb haw
        go_wp2_with fail
        go_ret
        exact ⟨rfl, HA.out⟩
      · have q4 : (ty == 4) = false := by simpa using h4'
        by_cases h5' : ty = 5
        · subst h5'
          rw [show errP ⟨4, 5, co, re, d⟩ = true from by simp [errP]]
          go_enter Try.func17, Try.ntmps17
          go_wp2_with (refine wpList_boxM rfl _ rfl ⟨4, 5, co, re, d⟩ _ rfl ?_; refine Hid.out ?_)
          refine Lib.hid ?_
          intro g1 w1 hl1 hb haw
          have HA := Lib.hid haw
          have b0 := hb.c0; have b1 := hb.c1
          simp only at b0 b1
          clear hb haw
          go_wp2_with fail
          go_ret
          exact ⟨rfl, HA.out⟩
        · have q5 : (ty == 5) = false := by simpa using h5'
          by_cases h11' : ty = 11
          · subst h11'
            rw [show errP ⟨4, 11, co, re, d⟩ = true from by simp [errP]]
            go_enter Try.func17, Try.ntmps17
            go_wp2_with (refine wpList_boxM rfl _ rfl ⟨4, 11, co, re, d⟩ _ rfl ?_; refine Hid.out ?_)
            refine Lib.hid ?_
            intro g1 w1 hl1 hb haw
            have HA := Lib.hid haw
            have b0 := hb.c0; have b1 := hb.c1
            simp only at b0 b1
            clear hb haw
            go_wp2_with fail
            go_ret
            exact ⟨rfl, HA.out⟩
          · have q11 : (ty == 11) = false := by simpa using h11'
            by_cases h12' : ty = 12
            · subst h12'
              rw [show errP ⟨4, 12, co, re, d⟩ = true from by simp [errP]]
              go_enter Try.func17, Try.ntmps17
              go_wp2_with (refine wpList_boxM rfl _ rfl ⟨4, 12, co, re, d⟩ _ rfl ?_; refine Hid.out ?_)
              refine Lib.hid ?_
              intro g1 w1 hl1 hb haw
              have HA := Lib.hid haw
              have b0 := hb.c0; have b1 := hb.c1
              simp only at b0 b1
              clear hb haw
              go_wp2_with fail
              go_ret
              exact ⟨rfl, HA.out⟩
            · have q12 : (ty == 12) = false := by simpa using h12'
              rw [show errP ⟨4, ty, co, re, d⟩ = false from by simp [errP]; omega]
              clear h3' h4' h5' h11' h12'
              go_enter Try.func17, Try.ntmps17
              go_wp2_with (refine wpList_boxM rfl _ rfl ⟨4, ty, co, re, d⟩ _ rfl ?_; refine Hid.out ?_)
              refine Lib.hid ?_
              intro g1 w1 hl1 hb haw
              have HA := Lib.hid haw
              have b0 := hb.c0; have b1 := hb.c1
              simp only at b0 b1
              clear hb haw
              go_wp2_with fail
              go_ret
              exact ⟨rfl, HA.out⟩
  · have q4 : (v == 4) = false := by simpa using h4
    by_cases h6 : v = 6
    · subst h6
      by_cases h0 : 0 ≤ ty
      · by_cases h7 : ty ≤ 127
        · rw [show errP ⟨6, ty, co, re, d⟩ = true from by simp [errP, h0, h7]]
          go_enter Try.func17, Try.ntmps17
          go_wp2_with (refine wpList_boxM rfl _ rfl ⟨6, ty, co, re, d⟩ _ rfl ?_; refine Hid.out ?_)
          refine Lib.hid ?_
          intro g1 w1 hl1 hb haw
          have HA := Lib.hid haw
          have b0 := hb.c0; have b1 := hb.c1
          simp only at b0 b1
          clear hb haw
          go_wp2_with fail
          go_ret
          exact ⟨rfl, HA.out⟩
        · rw [show errP ⟨6, ty, co, re, d⟩ = false from by simp [errP, h7]]
          go_enter Try.func17, Try.ntmps17
          go_wp2_with (refine wpList_boxM rfl _ rfl ⟨6, ty, co, re, d⟩ _ rfl ?_; refine Hid.out ?_)
          refine Lib.hid ?_
          intro g1 w1 hl1 hb haw
          have HA := Lib.hid haw
          have b0 := hb.c0; have b1 := hb.c1
          simp only at b0 b1
          clear hb haw
          go_wp2_with fail
          go_ret
          exact ⟨ret_bool (by simp [h7]), HA.out⟩
      · rw [show errP ⟨6, ty, co, re, d⟩ = false from by simp [errP, h0]]
        go_enter Try.func17, Try.ntmps17
        go_wp2_with (refine wpList_boxM rfl _ rfl ⟨6, ty, co, re, d⟩ _ rfl ?_; refine Hid.out ?_)
        refine Lib.hid ?_
        intro g1 w1 hl1 hb haw
        have HA := Lib.hid haw
        have b0 := hb.c0; have b1 := hb.c1
        simp only at b0 b1
        clear hb haw
        go_wp2_with fail
        go_ret
        exact ⟨rfl, HA.out⟩
    · have q6 : (v == 6) = false := by simpa using h6
      rw [show errP ⟨v, ty, co, re, d⟩ = false from by simp [errP, h4, h6]]
      go_enter Try.func17, Try.ntmps17
      go_wp2_with (refine wpList_boxM rfl _ rfl ⟨v, ty, co, re, d⟩ _ rfl ?_; refine Hid.out ?_)
      refine Lib.hid ?_
      intro g1 w1 hl1 hb haw
      have HA := Lib.hid haw
      have b0 := hb.c0; have b1 := hb.c1
      simp only at b0 b1
      clear hb haw
      go_wp2_with fail
      go_ret
      exact ⟨rfl, HA.out⟩
#print axioms risError_c
end Go.Proofs.Ytbgpjhekohabiaa
