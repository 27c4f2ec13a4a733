/-
  kind4, kind6, about, the five errors of icmp.
-/
import Derived.Test.YtbgpjhekohabiaaDoorPm
import Derived.Test.YtbgpjhekohabiaaDoorParse
import Derived.Test.YtbgpjhekohabiaaDoorSixZ
import Derived.Test.YtbgpjhekohabiaaDoorStp
namespace Go.Proofs.YtbgpjhekohabiaaDoor
open Go.ChangeShapes Go.WideShapes Go.ChangeAt Go.RowKit Num
set_option linter.unusedVariables false
set_option maxHeartbeats 4000000
set_option maxRecDepth 100000

def ty4 (k : Nat) : Int := if k < 3 then 3 else 11
def co4 (k : Nat) : Int := if k = 0 then 4 else if k = 1 then 3 else if k = 4 then 1 else 0
def ty6 (k : Nat) : Int := if k = 0 then 2 else if k < 3 then 1 else 3
def co6 (k : Nat) : Int := if k = 1 then 4 else if k = 4 then 1 else 0
def endP (b : List Int) : Nat := min b.length (headN b + 8)
/-- The error about bytes. -/
def aboutP (b : List Int) (k : Nat) : Mg × Int :=
  if (parse4 b).2 = 0 then (⟨4, ty4 k, co4 k, 0, b.take (endP b)⟩, 0) else if (S6.parse6 b).2 = 0 then (⟨6, ty6 k, co6 k, 0, b.take (min b.length 1232)⟩, 0) else (zeroMg, 1)
def bigP (b : List Int) (mtu : Int) : Mg × Int :=
  if 0 ≤ mtu ∧ mtu ≤ 65535 then ({ (aboutP b 0).1 with re := if (aboutP b 0).2 = 0 then mtu else 0 }, (aboutP b 0).2) else (zeroMg, 1)
def errsP (b : List Int) (mtu : Int) (k : Nat) : Mg × Int := if k = 0 then bigP b mtu else aboutP b k
theorem kind4_c (k : Nat) (w : World) (hk : k < 5) : Calls Tryd.prog 75 #[.int .i64 (k : Int)] w fun E w' => E = .returned (.tuple #[.int .i64 (ty4 k), .int .i64 (co4 k)]) ∧ w' = w := by
  obtain rfl | rfl | rfl | rfl | rfl : k = 0 ∨ k = 1 ∨ k = 2 ∨ k = 3 ∨ k = 4 := by omega
  · go_enter Tryd.func75, Tryd.ntmps75
    go_wp2
    go_ret2
    exact ⟨rfl, rfl⟩
  · go_enter Tryd.func75, Tryd.ntmps75
    go_wp2
    go_ret2
    exact ⟨rfl, rfl⟩
  · go_enter Tryd.func75, Tryd.ntmps75
    go_wp2
    go_ret2
    exact ⟨rfl, rfl⟩
  · go_enter Tryd.func75, Tryd.ntmps75
    go_wp2
    go_ret2
    exact ⟨rfl, rfl⟩
  · go_enter Tryd.func75, Tryd.ntmps75
    go_wp2
    go_ret2
    exact ⟨rfl, rfl⟩
theorem kind6_c (k : Nat) (w : World) (hk : k < 5) : Calls Tryd.prog 77 #[.int .i64 (k : Int)] w fun E w' => E = .returned (.tuple #[.int .i64 (ty6 k), .int .i64 (co6 k)]) ∧ w' = w := by
  obtain rfl | rfl | rfl | rfl | rfl : k = 0 ∨ k = 1 ∨ k = 2 ∨ k = 3 ∨ k = 4 := by omega
  · go_enter Tryd.func77, Tryd.ntmps77
    go_wp2
    go_ret2
    exact ⟨rfl, rfl⟩
  · go_enter Tryd.func77, Tryd.ntmps77
    go_wp2
    go_ret2
    exact ⟨rfl, rfl⟩
  · go_enter Tryd.func77, Tryd.ntmps77
    go_wp2
    go_ret2
    exact ⟨rfl, rfl⟩
  · go_enter Tryd.func77, Tryd.ntmps77
    go_wp2
    go_ret2
    exact ⟨rfl, rfl⟩
  · go_enter Tryd.func77, Tryd.ntmps77
    go_wp2
    go_ret2
    exact ⟨rfl, rfl⟩
theorem clone_at (a : Option Addr) (l : List Int) (n cap : Nat) (w : World) (hn : l.length = n) (ha : a = none → cap = 0) (hr : Row w a l) :
    Calls Tryd.prog 51 #[.slice a n cap] w fun e w' => ∃ v, e = .returned v ∧ Owns w' v l ∧ New w.heap.size v ∧ Away [] w w' := by subst hn; exact clone_any a l cap w ha hr
theorem about_four (a : Option Addr) (b : List Int) (cap k : Nat) (w : World) (hk : k < 5) (hr : Row w a b) (hcap : b.length ≤ cap) (hn : a = none → cap = 0) (hg : Glob w) (h4 : (parse4 b).2 = 0) :
    Calls Tryd.prog 47 #[.slice a b.length cap, .int .i64 (k : Int)] w fun E w' => MParseOut w (⟨4, ty4 k, co4 k, 0, b.take (endP b)⟩, 0) E w' := by
  have hlen := hr.1
  have HR := Lib.hid hr
  have HG := Lib.hid hg
  have HW4 := Lib.hid (parse4_wf hr.2.1 hr.1)
  have K4 : Hid (∀ w, Calls Tryd.prog 75 #[.int .i64 (k : Int)] w fun E w' => E = .returned (.tuple #[.int .i64 (ty4 k), .int .i64 (co4 k)]) ∧ w' = w) := fun w => kind4_c k w hk
  have K6 : Hid (∀ w, Calls Tryd.prog 77 #[.int .i64 (k : Int)] w fun E w' => E = .returned (.tuple #[.int .i64 (ty6 k), .int .i64 (co6 k)]) ∧ w' = w) := fun w => kind6_c k w hk
  obtain ⟨hE, -, hpe, hf, hv⟩ := parse4_ok (b := b) (p := (parse4 b).1) (by rw [← h4])
  obtain ⟨h20, -, hk20, hkl, -, -⟩ := headE_ok hE
  have HRT : Hid (headP (parse4 b).1 = (headN b : Int)) := by
    show _ = _
    unfold headP
    rw [if_pos ((right_iff _).2 ⟨hf, hv⟩), hpe]
    show (20 : Int) + ((b.drop 20).take (headN b - 20)).length = _
    rw [List.length_take, List.length_drop]; omega
  have h0 : (parse4 b).2 = 0 := h4
  clear hE hpe hf hv
  clear hr hg
  go_enter Tryd.func47, Tryd.ntmps47
  go_wp2_with (refine wpList_allocM rfl rfl ?_; refine Hid.out ?_)
  refine Lib.hid ?_
  intro g4 w1 hg4 hb haw
  have HA := Lib.hid haw; have HB := Lib.hid hb
  have hl4 := hb.lt
  clear hb haw
  go_wp2_with fail
  refine (parse_c a b _ cap _ rfl hcap hn (by exact HR.out.on HA.out) (by exact HG.out.on HA.out)).mono ?_
  rintro E w2 ⟨ov, dv, rfl, hoo, hdd, -, -, -, haw⟩
  have hs1 := HA.out.size
  replace HA := Lib.hid (HA.out.on haw); replace HB := Lib.hid (HB.out.on haw)
  have HO := Lib.hid hoo; have HD := Lib.hid hdd
  clear hoo hdd haw
  obtain ⟨oa, on, oc, rfl⟩ := HO.out.shp
  obtain ⟨da, dn, dc, rfl⟩ := HD.out.shp
  generalize hp : (parse4 b).1 = p at *
  go_wp2_with (refine wpList_new28 rfl rfl rfl _ _ rfl p (.slice oa on oc) (.slice da dn dc) (fun _ => rfl) (fun _ => rfl) HW4.out.ad rfl rfl ?_; refine Hid.out ?_)
  refine Lib.hid ?_
  intro g6 w3 hg6 hb haw
  have hs2 := HA.out.size
  replace HA := Lib.hid (HA.out.on haw); replace HB := Lib.hid (HB.out.on haw); replace HO := Lib.hid (HO.out.on haw); replace HD := Lib.hid (HD.out.on haw); have HP := Lib.hid hb
  clear hb haw
  have H0 := Lib.hid h0
  go_wp2_with (first | (refine wpList_load28 rfl _ rfl g6 rfl p (.slice oa on oc) (.slice da dn dc) (by exact HP.out) HW4.out.ad ?_))
  refine (head_c p (.slice oa on oc) (.slice da dn dc) _ ⟨HW4.out, by exact HO.out.sl HW4.out.o HW4.out.ol, by exact HD.out.sl HW4.out.d HW4.out.dn⟩ (by exact HG.out.on HA.out)).mono ?_
  rw [HRT.out]
  rintro E w4 ⟨rfl, haw⟩
  replace HA := Lib.hid (HA.out.on haw); replace HB := Lib.hid (HB.out.on haw)
  clear haw HO HD HP
  generalize hN : headN b = N at *
  by_cases hle : b.length ≤ N + 8
  · have HEN : Hid (endP b = b.length) := by show _ = _; unfold endP; rw [hN]; exact Nat.min_eq_left hle
    have hle' : (b.length : Int) ≤ (N : Int) + 8 := by omega
    have hle2 : ¬ ((N : Int) + 8 < (b.length : Int)) := by omega
    have s1 := slice_h a b.length cap b.length ((b.length : Int)) (by rfl) (by omega)
    go_wp2_with fail
    refine (K4.out _).mono ?_
    rintro E w5 ⟨rfl, hw5⟩
    subst hw5
    go_wp2_with fail
    clear s1
    refine (clone_at a (b.take b.length) _ cap _ (by simp) hn (by exact (HR.out.on HA.out).head _)).mono ?_
    rintro E w6 ⟨v, rfl, hv, hnv, haw⟩
    have hs6 := HA.out.size
    have hl46 := HB.out.lt
    replace HA := Lib.hid (HA.out.on haw); replace HB := Lib.hid (HB.out.on haw)
    have HV := Lib.hid hv; have HN := Lib.hid hnv
    clear hv hnv haw
    obtain ⟨va, vn, vc, rfl⟩ := HV.out.shp
    go_wp2_with (refine wpList_storeM rfl _ _ rfl g4 rfl ⟨4, ty4 k, co4 k, 0, b.take b.length⟩ (.slice va vn vc) rfl zeroMg (.slice none 0 0) (by exact HB.out) rfl ?_; refine Hid.out ?_)
    refine Lib.hid ?_
    intro wz hb haw
    have HZ := Lib.hid hb
    replace HA : Hid (Away [] w wz) := HA.out.next haw (fun x hx => .inr (by simp at hx; omega))
    replace HV := Lib.hid (HV.out.away haw (fun k hk => by have := HN.out k hk; simp; omega))
    clear hb haw
    go_wp2_with fail
    refine bodyPost_ret (resultMt rfl _ _ _ _ _ _ rfl rfl HZ.out) rfl ?_
    rw [HEN.out]
    exact ⟨_, rfl, HV.out, fun k hk => by have := HN.out k hk; omega, HA.out⟩
  · have HEN : Hid (endP b = (N + 8)) := by show _ = _; unfold endP; rw [hN]; exact Nat.min_eq_right (by omega)
    have hle' : ¬ (b.length : Int) ≤ (N : Int) + 8 := by omega
    have hle2 : (N : Int) + 8 < (b.length : Int) := by omega
    have s1 := slice_h a b.length cap (N + 8) ((N : Int) + 8) (by omega) (by omega)
    go_wp2_with fail
    refine (K4.out _).mono ?_
    rintro E w5 ⟨rfl, hw5⟩
    subst hw5
    go_wp2_with fail
    clear s1
    refine (clone_at a (b.take (N + 8)) _ cap _ (by simp; omega) hn (by exact (HR.out.on HA.out).head _)).mono ?_
    rintro E w6 ⟨v, rfl, hv, hnv, haw⟩
    have hs6 := HA.out.size
    have hl46 := HB.out.lt
    replace HA := Lib.hid (HA.out.on haw); replace HB := Lib.hid (HB.out.on haw)
    have HV := Lib.hid hv; have HN := Lib.hid hnv
    clear hv hnv haw
    obtain ⟨va, vn, vc, rfl⟩ := HV.out.shp
    go_wp2_with (refine wpList_storeM rfl _ _ rfl g4 rfl ⟨4, ty4 k, co4 k, 0, b.take (N + 8)⟩ (.slice va vn vc) rfl zeroMg (.slice none 0 0) (by exact HB.out) rfl ?_; refine Hid.out ?_)
    refine Lib.hid ?_
    intro wz hb haw
    have HZ := Lib.hid hb
    replace HA : Hid (Away [] w wz) := HA.out.next haw (fun x hx => .inr (by simp at hx; omega))
    replace HV := Lib.hid (HV.out.away haw (fun k hk => by have := HN.out k hk; simp; omega))
    clear hb haw
    go_wp2_with fail
    refine bodyPost_ret (resultMt rfl _ _ _ _ _ _ rfl rfl HZ.out) rfl ?_
    rw [HEN.out]
    exact ⟨_, rfl, HV.out, fun k hk => by have := HN.out k hk; omega, HA.out⟩
theorem about_six (a : Option Addr) (b : List Int) (cap k : Nat) (w : World) (hk : k < 5) (hr : Row w a b) (hcap : b.length ≤ cap) (hn : a = none → cap = 0) (hg : Glob w) (h4 : (parse4 b).2 ≠ 0) (h6 : (S6.parse6 b).2 = 0) :
    Calls Tryd.prog 47 #[.slice a b.length cap, .int .i64 (k : Int)] w fun E w' => MParseOut w (⟨6, ty6 k, co6 k, 0, b.take (min b.length 1232)⟩, 0) E w' := by
  have hlen := hr.1
  have HR := Lib.hid hr
  have HG := Lib.hid hg
  have HW4 := Lib.hid (parse4_wf hr.2.1 hr.1)
  have K4 : Hid (∀ w, Calls Tryd.prog 75 #[.int .i64 (k : Int)] w fun E w' => E = .returned (.tuple #[.int .i64 (ty4 k), .int .i64 (co4 k)]) ∧ w' = w) := fun w => kind4_c k w hk
  have K6 : Hid (∀ w, Calls Tryd.prog 77 #[.int .i64 (k : Int)] w fun E w' => E = .returned (.tuple #[.int .i64 (ty6 k), .int .i64 (co6 k)]) ∧ w' = w) := fun w => kind6_c k w hk
  obtain ⟨e4, he4⟩ : ∃ e, e = (parse4 b).2 := ⟨_, rfl⟩
  have h4' : (e4 == 0) = false := by rw [he4]; simpa using h4
  have HW6 := Lib.hid (S6.parse6_wf hr.2.1 hr.1)
  have HB6 := Lib.hid hr.2.1
  clear hr hg
  go_enter Tryd.func47, Tryd.ntmps47
  go_wp2_with (refine wpList_allocM rfl rfl ?_; refine Hid.out ?_)
  refine Lib.hid ?_
  intro g4 w1 hg4 hb haw
  have HA := Lib.hid haw; have HB := Lib.hid hb
  have hl4 := hb.lt
  clear hb haw
  go_wp2_with fail
  refine (parse_c a b _ cap _ rfl hcap hn (by exact HR.out.on HA.out) (by exact HG.out.on HA.out)).mono ?_
  rintro E w2 ⟨ov, dv, rfl, hoo, hdd, -, -, -, haw⟩
  have hs1 := HA.out.size
  replace HA := Lib.hid (HA.out.on haw); replace HB := Lib.hid (HB.out.on haw)
  have HO := Lib.hid hoo; have HD := Lib.hid hdd
  clear hoo hdd haw
  obtain ⟨oa, on, oc, rfl⟩ := HO.out.shp
  obtain ⟨da, dn, dc, rfl⟩ := HD.out.shp
  generalize hp : (parse4 b).1 = p at *
  go_wp2_with (refine wpList_new28 rfl rfl rfl _ _ rfl p (.slice oa on oc) (.slice da dn dc) (fun _ => rfl) (fun _ => rfl) HW4.out.ad rfl rfl ?_; refine Hid.out ?_)
  refine Lib.hid ?_
  intro g6 w3 hg6 hb haw
  have hs2 := HA.out.size
  replace HA := Lib.hid (HA.out.on haw); replace HB := Lib.hid (HB.out.on haw); replace HO := Lib.hid (HO.out.on haw); replace HD := Lib.hid (HD.out.on haw); have HP := Lib.hid hb
  clear hb haw
  rw [← he4]
  clear he4 h4
  go_wp2_with fail
  refine (S6.parse_c a b _ cap _ rfl hcap hn (by exact HR.out.on HA.out)).mono ?_
  rintro E w4 ⟨ov, dv, rfl, hoo, hdd, -, -, -, haw⟩
  have hs3 := HA.out.size
  replace HA := Lib.hid (HA.out.on haw); replace HB := Lib.hid (HB.out.on haw)
  clear haw HO HD HP
  obtain ⟨oa2, on2, oc2, rfl⟩ := hoo.shp
  obtain ⟨da2, dn2, dc2, rfl⟩ := hdd.shp
  clear hoo hdd
  generalize hq : (S6.parse6 b).1 = q at *
  go_wp2_with (refine wpList_new28 rfl rfl rfl _ _ rfl q (.slice oa2 on2 oc2) (.slice da2 dn2 dc2) (fun _ => rfl) (fun _ => rfl) HW6.out.ad rfl rfl ?_; refine Hid.out ?_)
  refine Lib.hid ?_
  intro g11 w5 hg11 hb haw
  replace HA := Lib.hid (HA.out.on haw); replace HB := Lib.hid (HB.out.on haw)
  clear hb haw
  by_cases hle : b.length ≤ 1232
  · have HEN : Hid (min b.length 1232 = b.length) := Nat.min_eq_left hle
    have hle' : (b.length : Int) ≤ 1232 := by omega
    have hle2 : ¬ (1232 < (b.length : Int)) := by omega
    have s1 := slice_h a b.length cap b.length ((b.length : Int)) rfl (by omega)
    go_wp2_with fail
    refine (K6.out _).mono ?_
    rintro E w5' ⟨rfl, hw5⟩
    subst hw5
    go_wp2_with fail
    clear s1
    refine (clone_at a (b.take b.length) _ cap _ (by simp) hn (by exact (HR.out.on HA.out).head _)).mono ?_
    rintro E w6 ⟨v, rfl, hv, hnv, haw⟩
    have hs6 := HA.out.size
    have hl46 := HB.out.lt
    replace HA := Lib.hid (HA.out.on haw); replace HB := Lib.hid (HB.out.on haw)
    have HV := Lib.hid hv; have HN := Lib.hid hnv
    clear hv hnv haw
    obtain ⟨va, vn, vc, rfl⟩ := HV.out.shp
    go_wp2_with (refine wpList_storeM rfl _ _ rfl g4 rfl ⟨6, ty6 k, co6 k, 0, b.take b.length⟩ (.slice va vn vc) rfl zeroMg (.slice none 0 0) (by exact HB.out) rfl ?_; refine Hid.out ?_)
    refine Lib.hid ?_
    intro wz hb haw
    have HZ := Lib.hid hb
    replace HA : Hid (Away [] w wz) := HA.out.next haw (fun x hx => .inr (by simp at hx; omega))
    replace HV := Lib.hid (HV.out.away haw (fun k hk => by have := HN.out k hk; simp; omega))
    clear hb haw
    go_wp2_with fail
    refine bodyPost_ret (resultMt rfl _ _ _ _ _ _ rfl rfl HZ.out) rfl ?_
    rw [HEN.out]
    exact ⟨_, rfl, HV.out, fun k hk => by have := HN.out k hk; omega, HA.out⟩
  · have HEN : Hid (min b.length 1232 = 1232) := Nat.min_eq_right (by omega)
    have hle' : ¬ (b.length : Int) ≤ 1232 := by omega
    have hle2 : 1232 < (b.length : Int) := by omega
    have s1 := slice_h a b.length cap 1232 (1232) rfl (by omega)
    go_wp2_with fail
    refine (K6.out _).mono ?_
    rintro E w5' ⟨rfl, hw5⟩
    subst hw5
    go_wp2_with fail
    clear s1
    refine (clone_at a (b.take 1232) _ cap _ (by simp; omega) hn (by exact (HR.out.on HA.out).head _)).mono ?_
    rintro E w6 ⟨v, rfl, hv, hnv, haw⟩
    have hs6 := HA.out.size
    have hl46 := HB.out.lt
    replace HA := Lib.hid (HA.out.on haw); replace HB := Lib.hid (HB.out.on haw)
    have HV := Lib.hid hv; have HN := Lib.hid hnv
    clear hv hnv haw
    obtain ⟨va, vn, vc, rfl⟩ := HV.out.shp
    go_wp2_with (refine wpList_storeM rfl _ _ rfl g4 rfl ⟨6, ty6 k, co6 k, 0, b.take 1232⟩ (.slice va vn vc) rfl zeroMg (.slice none 0 0) (by exact HB.out) rfl ?_; refine Hid.out ?_)
    refine Lib.hid ?_
    intro wz hb haw
    have HZ := Lib.hid hb
    replace HA : Hid (Away [] w wz) := HA.out.next haw (fun x hx => .inr (by simp at hx; omega))
    replace HV := Lib.hid (HV.out.away haw (fun k hk => by have := HN.out k hk; simp; omega))
    clear hb haw
    go_wp2_with fail
    refine bodyPost_ret (resultMt rfl _ _ _ _ _ _ rfl rfl HZ.out) rfl ?_
    rw [HEN.out]
    exact ⟨_, rfl, HV.out, fun k hk => by have := HN.out k hk; omega, HA.out⟩
theorem about_none (a : Option Addr) (b : List Int) (cap k : Nat) (w : World) (hk : k < 5) (hr : Row w a b) (hcap : b.length ≤ cap) (hn : a = none → cap = 0) (hg : Glob w) (h4 : (parse4 b).2 ≠ 0) (h6 : (S6.parse6 b).2 ≠ 0) :
    Calls Tryd.prog 47 #[.slice a b.length cap, .int .i64 (k : Int)] w fun E w' => MParseOut w (zeroMg, 1) E w' := by
  have hlen := hr.1
  have HR := Lib.hid hr
  have HG := Lib.hid hg
  have HW4 := Lib.hid (parse4_wf hr.2.1 hr.1)
  have K4 : Hid (∀ w, Calls Tryd.prog 75 #[.int .i64 (k : Int)] w fun E w' => E = .returned (.tuple #[.int .i64 (ty4 k), .int .i64 (co4 k)]) ∧ w' = w) := fun w => kind4_c k w hk
  have K6 : Hid (∀ w, Calls Tryd.prog 77 #[.int .i64 (k : Int)] w fun E w' => E = .returned (.tuple #[.int .i64 (ty6 k), .int .i64 (co6 k)]) ∧ w' = w) := fun w => kind6_c k w hk
  obtain ⟨e4, he4⟩ : ∃ e, e = (parse4 b).2 := ⟨_, rfl⟩
  have h4' : (e4 == 0) = false := by rw [he4]; simpa using h4
  have HW6 := Lib.hid (S6.parse6_wf hr.2.1 hr.1)
  have HB6 := Lib.hid hr.2.1
  obtain ⟨e6, he6⟩ : ∃ e, e = (S6.parse6 b).2 := ⟨_, rfl⟩
  have h6' : (e6 == 0) = false := by rw [he6]; simpa using h6
  clear hr hg
  go_enter Tryd.func47, Tryd.ntmps47
  go_wp2_with (refine wpList_allocM rfl rfl ?_; refine Hid.out ?_)
  refine Lib.hid ?_
  intro g4 w1 hg4 hb haw
  have HA := Lib.hid haw; have HB := Lib.hid hb
  have hl4 := hb.lt
  clear hb haw
  go_wp2_with fail
  refine (parse_c a b _ cap _ rfl hcap hn (by exact HR.out.on HA.out) (by exact HG.out.on HA.out)).mono ?_
  rintro E w2 ⟨ov, dv, rfl, hoo, hdd, -, -, -, haw⟩
  have hs1 := HA.out.size
  replace HA := Lib.hid (HA.out.on haw); replace HB := Lib.hid (HB.out.on haw)
  have HO := Lib.hid hoo; have HD := Lib.hid hdd
  clear hoo hdd haw
  obtain ⟨oa, on, oc, rfl⟩ := HO.out.shp
  obtain ⟨da, dn, dc, rfl⟩ := HD.out.shp
  generalize hp : (parse4 b).1 = p at *
  go_wp2_with (refine wpList_new28 rfl rfl rfl _ _ rfl p (.slice oa on oc) (.slice da dn dc) (fun _ => rfl) (fun _ => rfl) HW4.out.ad rfl rfl ?_; refine Hid.out ?_)
  refine Lib.hid ?_
  intro g6 w3 hg6 hb haw
  have hs2 := HA.out.size
  replace HA := Lib.hid (HA.out.on haw); replace HB := Lib.hid (HB.out.on haw); replace HO := Lib.hid (HO.out.on haw); replace HD := Lib.hid (HD.out.on haw); have HP := Lib.hid hb
  clear hb haw
  rw [← he4]
  clear he4 h4
  go_wp2_with fail
  refine (S6.parse_c a b _ cap _ rfl hcap hn (by exact HR.out.on HA.out)).mono ?_
  rintro E w4 ⟨ov, dv, rfl, hoo, hdd, -, -, -, haw⟩
  have hs3 := HA.out.size
  replace HA := Lib.hid (HA.out.on haw); replace HB := Lib.hid (HB.out.on haw)
  clear haw HO HD HP
  obtain ⟨oa2, on2, oc2, rfl⟩ := hoo.shp
  obtain ⟨da2, dn2, dc2, rfl⟩ := hdd.shp
  clear hoo hdd
  rw [← he6]
  clear he6 h6
  generalize hq : (S6.parse6 b).1 = q at *
  go_wp2_with (refine wpList_new28 rfl rfl rfl _ _ rfl q (.slice oa2 on2 oc2) (.slice da2 dn2 dc2) (fun _ => rfl) (fun _ => rfl) HW6.out.ad rfl rfl ?_; refine Hid.out ?_)
  refine Lib.hid ?_
  intro g11 w5 hg11 hb haw
  replace HA := Lib.hid (HA.out.on haw); replace HB := Lib.hid (HB.out.on haw)
  clear hb haw
  go_wp2_with (refine wpList_storeM rfl _ _ rfl g4 rfl zeroMg (.slice none 0 0) rfl zeroMg (.slice none 0 0) (by exact HB.out) rfl ?_; refine Hid.out ?_)
  refine Lib.hid ?_
  intro wz hb haw
  have HZ := Lib.hid hb
  replace HA : Hid (Away [] w wz) := HA.out.next haw (fun x hx => .inr (by simp at hx; omega))
  clear hb haw
  go_wp2_with fail
  refine bodyPost_ret (resultMt rfl _ _ _ _ _ _ rfl rfl HZ.out) rfl ⟨_, rfl, Owns.nil _, New.nil _, HA.out⟩
theorem about_c (a : Option Addr) (b : List Int) (cap k : Nat) (w : World) (hk : k < 5) (hr : Row w a b) (hcap : b.length ≤ cap) (hn : a = none → cap = 0) (hg : Glob w) :
    Calls Tryd.prog 47 #[.slice a b.length cap, .int .i64 (k : Int)] w fun E w' => MParseOut w (aboutP b k) E w' := by
  unfold aboutP
  by_cases h4 : (parse4 b).2 = 0
  · rw [if_pos h4]; exact about_four a b cap k w hk hr hcap hn hg h4
  · rw [if_neg h4]
    by_cases h6 : (S6.parse6 b).2 = 0
    · rw [if_pos h6]; exact about_six a b cap k w hk hr hcap hn hg h4 h6
    · rw [if_neg h6]; exact about_none a b cap k w hk hr hcap hn hg h4 h6
#print axioms about_c
theorem noPort_c (a : Option Addr) (b : List Int) (cap : Nat) (w : World) (hr : Row w a b) (hcap : b.length ≤ cap) (hn : a = none → cap = 0) (hg : Glob w) :
    Calls Tryd.prog 19 #[.slice a b.length cap] w fun E w' => MParseOut w (aboutP b 1) E w' := by
  have K : Hid (∀ W, Away [] w W → Calls Tryd.prog 47 #[.slice a b.length cap, .int .i64 1] W fun E w' => MParseOut W (aboutP b 1) E w') := fun W h => about_c a b cap 1 W (by omega) (hr.on h) hcap hn (hg.on h)
  clear hr hg
  generalize aboutP b 1 = r at *
  go_enter Tryd.func19, Tryd.ntmps19
  go_wp2_with (refine wpList_allocM rfl rfl ?_; refine Hid.out ?_)
  refine Lib.hid ?_
  intro g4 w1 hg4 hb haw
  have HA := Lib.hid haw; have HB := Lib.hid hb
  have hl4 := hb.lt
  clear hb haw
  go_wp2_with fail
  refine (K.out _ HA.out).mono ?_
  rintro E w2 ⟨v, rfl, hv, hnv, haw⟩
  have hs1 := HA.out.size
  replace HA := Lib.hid (HA.out.on haw); replace HB := Lib.hid (HB.out.on haw)
  have HV := Lib.hid hv; have HN := Lib.hid hnv
  clear hv hnv haw K
  obtain ⟨va, vn, vc, rfl⟩ := HV.out.shp
  obtain ⟨m, e⟩ := r
  go_wp2_with (refine wpList_storeM rfl _ _ rfl g4 rfl m (.slice va vn vc) rfl zeroMg (.slice none 0 0) (by exact HB.out) rfl ?_; refine Hid.out ?_)
  refine Lib.hid ?_
  intro wz hb haw
  have HZ := Lib.hid hb
  replace HA : Hid (Away [] w wz) := HA.out.next haw (fun x hx => .inr (by simp at hx; omega))
  replace HV := Lib.hid (HV.out.away haw (fun k hk => by have := HN.out k hk; simp; omega))
  clear hb haw
  go_wp2_with fail
  refine bodyPost_ret (resultMt rfl _ _ _ _ _ _ rfl rfl HZ.out) rfl ⟨_, rfl, HV.out, fun k hk => by have := HN.out k hk; omega, HA.out⟩
theorem about_re (b : List Int) (k : Nat) : (aboutP b k).1.re = 0 ∧ ((aboutP b k).2 = 0 ∨ (aboutP b k).2 = 1) := by
  unfold aboutP
  split
  · exact ⟨rfl, .inl rfl⟩
  · split
    · exact ⟨rfl, .inl rfl⟩
    · exact ⟨rfl, .inr rfl⟩
theorem tooBig_lo (a : Option Addr) (b : List Int) (cap : Nat) (mtu : Int) (w : World) (hr : Row w a b) (hcap : b.length ≤ cap) (hn : a = none → cap = 0) (hg : Glob w) (h : mtu < 0) :
    Calls Tryd.prog 18 #[.slice a b.length cap, .int .i64 mtu] w fun E w' => MParseOut w (bigP b mtu) E w' := by
  have K : Hid (∀ W, Away [] w W → Calls Tryd.prog 47 #[.slice a b.length cap, .int .i64 0] W fun E w' => MParseOut W (aboutP b 0) E w') := fun W h => about_c a b cap 0 W (by omega) (hr.on h) hcap hn (hg.on h)
  have hre := about_re b 0
  have HBG : Hid (bigP b mtu = if 0 ≤ mtu ∧ mtu ≤ 65535 then ({ (aboutP b 0).1 with re := if (aboutP b 0).2 = 0 then mtu else 0 }, (aboutP b 0).2) else (zeroMg, 1)) := rfl
  clear hr hg
  generalize bigP b mtu = r at *
  generalize aboutP b 0 = q at *
  obtain ⟨⟨v, ty, co, re, d⟩, e⟩ := q
  simp only at hre
  obtain ⟨rfl, he⟩ := hre
  go_enter Tryd.func18, Tryd.ntmps18
  go_wp2_with (refine wpList_allocM rfl rfl ?_; refine Hid.out ?_)
  refine Lib.hid ?_
  intro g4 w1 hg4 hb haw
  have HA := Lib.hid haw; have HB := Lib.hid hb
  have hl4 := hb.lt
  clear hb haw
  obtain rfl : r = (zeroMg, 1) := by rw [HBG.out, if_neg (by omega)]
  go_wp2_with (refine wpList_storeM rfl _ _ rfl g4 rfl zeroMg (.slice none 0 0) rfl zeroMg (.slice none 0 0) (by exact HB.out) rfl ?_; refine Hid.out ?_)
  refine Lib.hid ?_
  intro wz hb haw
  have HZ := Lib.hid hb
  replace HA : Hid (Away [] w wz) := HA.out.next haw (fun x hx => .inr (by simp at hx; omega))
  clear hb haw
  go_wp2_with fail
  refine bodyPost_ret (resultMt rfl _ _ _ _ _ _ rfl rfl HZ.out) rfl ⟨_, rfl, Owns.nil _, New.nil _, HA.out⟩
theorem tooBig_hi (a : Option Addr) (b : List Int) (cap : Nat) (mtu : Int) (w : World) (hr : Row w a b) (hcap : b.length ≤ cap) (hn : a = none → cap = 0) (hg : Glob w) (h0 : 0 ≤ mtu) (h : 65535 < mtu) :
    Calls Tryd.prog 18 #[.slice a b.length cap, .int .i64 mtu] w fun E w' => MParseOut w (bigP b mtu) E w' := by
  have K : Hid (∀ W, Away [] w W → Calls Tryd.prog 47 #[.slice a b.length cap, .int .i64 0] W fun E w' => MParseOut W (aboutP b 0) E w') := fun W h => about_c a b cap 0 W (by omega) (hr.on h) hcap hn (hg.on h)
  have hre := about_re b 0
  have HBG : Hid (bigP b mtu = if 0 ≤ mtu ∧ mtu ≤ 65535 then ({ (aboutP b 0).1 with re := if (aboutP b 0).2 = 0 then mtu else 0 }, (aboutP b 0).2) else (zeroMg, 1)) := rfl
  clear hr hg
  generalize bigP b mtu = r at *
  generalize aboutP b 0 = q at *
  obtain ⟨⟨v, ty, co, re, d⟩, e⟩ := q
  simp only at hre
  obtain ⟨rfl, he⟩ := hre
  go_enter Tryd.func18, Tryd.ntmps18
  go_wp2_with (refine wpList_allocM rfl rfl ?_; refine Hid.out ?_)
  refine Lib.hid ?_
  intro g4 w1 hg4 hb haw
  have HA := Lib.hid haw; have HB := Lib.hid hb
  have hl4 := hb.lt
  clear hb haw
  obtain rfl : r = (zeroMg, 1) := by rw [HBG.out, if_neg (by omega)]
  go_wp2_with (refine wpList_storeM rfl _ _ rfl g4 rfl zeroMg (.slice none 0 0) rfl zeroMg (.slice none 0 0) (by exact HB.out) rfl ?_; refine Hid.out ?_)
  refine Lib.hid ?_
  intro wz hb haw
  have HZ := Lib.hid hb
  replace HA : Hid (Away [] w wz) := HA.out.next haw (fun x hx => .inr (by simp at hx; omega))
  clear hb haw
  go_wp2_with fail
  refine bodyPost_ret (resultMt rfl _ _ _ _ _ _ rfl rfl HZ.out) rfl ⟨_, rfl, Owns.nil _, New.nil _, HA.out⟩
theorem tooBig_in (a : Option Addr) (b : List Int) (cap : Nat) (mtu : Int) (w : World) (hr : Row w a b) (hcap : b.length ≤ cap) (hn : a = none → cap = 0) (hg : Glob w) (h0 : 0 ≤ mtu) (h1 : mtu ≤ 65535) :
    Calls Tryd.prog 18 #[.slice a b.length cap, .int .i64 mtu] w fun E w' => MParseOut w (bigP b mtu) E w' := by
  have K : Hid (∀ W, Away [] w W → Calls Tryd.prog 47 #[.slice a b.length cap, .int .i64 0] W fun E w' => MParseOut W (aboutP b 0) E w') := fun W h => about_c a b cap 0 W (by omega) (hr.on h) hcap hn (hg.on h)
  have hre := about_re b 0
  have HBG : Hid (bigP b mtu = if 0 ≤ mtu ∧ mtu ≤ 65535 then ({ (aboutP b 0).1 with re := if (aboutP b 0).2 = 0 then mtu else 0 }, (aboutP b 0).2) else (zeroMg, 1)) := rfl
  clear hr hg
  generalize bigP b mtu = r at *
  generalize aboutP b 0 = q at *
  obtain ⟨⟨v, ty, co, re, d⟩, e⟩ := q
  simp only at hre
  obtain ⟨rfl, he⟩ := hre
  go_enter Tryd.func18, Tryd.ntmps18
  go_wp2_with (refine wpList_allocM rfl rfl ?_; refine Hid.out ?_)
  refine Lib.hid ?_
  intro g4 w1 hg4 hb haw
  have HA := Lib.hid haw; have HB := Lib.hid hb
  have hl4 := hb.lt
  clear hb haw
  go_wp2_with fail
  refine (K.out _ HA.out).mono ?_
  rintro E w2 ⟨vv, rfl, hv, hnv, haw⟩
  have hs1 := HA.out.size
  replace HA := Lib.hid (HA.out.on haw); replace HB := Lib.hid (HB.out.on haw)
  have HV := Lib.hid hv; have HN := Lib.hid hnv; have HVL := Lib.hid hv.lt
  clear hv hnv haw K
  obtain ⟨va, vn, vc, rfl⟩ := HV.out.shp
  go_wp2_with (refine wpList_newM rfl rfl rfl _ _ rfl ⟨v, ty, co, 0, d⟩ (.slice va vn vc) (fun _ => rfl) (fun _ => rfl) rfl ?_; refine Hid.out ?_)
  refine Lib.hid ?_
  intro g6 w3 hg6 hb haw
  have hs2 := HA.out.size
  have hlb := HB.out.lt
  replace HA := Lib.hid (HA.out.on haw); replace HB := Lib.hid (HB.out.on haw); replace HV := Lib.hid (HV.out.on haw); have HC := Lib.hid hb
  clear hb haw
  rcases he with rfl | rfl
  · obtain rfl : r = (⟨v, ty, co, mtu, d⟩, 0) := by rw [HBG.out, if_pos ⟨h0, h1⟩]; rfl
    have c3 := HC.out.c3; have f3 := HC.out.free 3
    have haw := away_put (w := w3) (g := g6) 3 (.int .u32 mtu)
    have hl6 := HC.out.lt
    have hc := HC.out.put 3 (.int .u32 mtu) (g' := ⟨v, ty, co, mtu, d⟩) (dv' := .slice va vn vc) rfl
    replace HA := Lib.hid (HA.out.next haw (fun x hx => .inr (by simp at hx; omega)))
    replace HB := Lib.hid (HB.out.away haw (by simp; omega))
    replace HV := Lib.hid (HV.out.away haw (fun k hk => by have h2 := HVL.out k hk; simp; omega))
    replace HC := Lib.hid hc
    clear hc haw
    go_upto_region 6 with fail
    clear c3 f3
    generalize w3.setCell ⟨g6, 3, none⟩ (.int .u32 mtu) = w4 at *
    go_wp2_with (first | (refine wpList_loadM rfl _ rfl g6 rfl ⟨v, ty, co, mtu, d⟩ (.slice va vn vc) (by exact HC.out) ?_) | (refine wpList_storeM rfl _ _ rfl g4 rfl ⟨v, ty, co, mtu, d⟩ (.slice va vn vc) rfl zeroMg (.slice none 0 0) (by exact HB.out) rfl ?_; refine Hid.out ?_))
    refine Lib.hid ?_
    intro wz hb haw
    have HZ := Lib.hid hb
    replace HA : Hid (Away [] w wz) := HA.out.next haw (fun x hx => .inr (by simp at hx; omega))
    replace HV := Lib.hid (HV.out.away haw (fun k hk => by have := HN.out k hk; simp; omega))
    clear hb haw
    go_wp2_with fail
    refine bodyPost_ret (resultMt rfl _ _ _ _ _ _ rfl rfl HZ.out) rfl ⟨_, rfl, HV.out, fun k hk => by have := HN.out k hk; omega, HA.out⟩
  · obtain rfl : r = (⟨v, ty, co, 0, d⟩, 1) := by rw [HBG.out, if_pos ⟨h0, h1⟩]; rfl
    go_wp2_with (first | (refine wpList_loadM rfl _ rfl g6 rfl ⟨v, ty, co, 0, d⟩ (.slice va vn vc) (by exact HC.out) ?_) | (refine wpList_storeM rfl _ _ rfl g4 rfl ⟨v, ty, co, 0, d⟩ (.slice va vn vc) rfl zeroMg (.slice none 0 0) (by exact HB.out) rfl ?_; refine Hid.out ?_))
    refine Lib.hid ?_
    intro wz hb haw
    have HZ := Lib.hid hb
    replace HA : Hid (Away [] w wz) := HA.out.next haw (fun x hx => .inr (by simp at hx; omega))
    replace HV := Lib.hid (HV.out.away haw (fun k hk => by have := HN.out k hk; simp; omega))
    clear hb haw
    go_wp2_with fail
    refine bodyPost_ret (resultMt rfl _ _ _ _ _ _ rfl rfl HZ.out) rfl ⟨_, rfl, HV.out, fun k hk => by have := HN.out k hk; omega, HA.out⟩
theorem tooBig_c (a : Option Addr) (b : List Int) (cap : Nat) (mtu : Int) (w : World) (hr : Row w a b) (hcap : b.length ≤ cap) (hn : a = none → cap = 0) (hg : Glob w) :
    Calls Tryd.prog 18 #[.slice a b.length cap, .int .i64 mtu] w fun E w' => MParseOut w (bigP b mtu) E w' := by
  by_cases h0 : 0 ≤ mtu
  · by_cases h1 : mtu ≤ 65535
    · exact tooBig_in a b cap mtu w hr hcap hn hg h0 h1
    · exact tooBig_hi a b cap mtu w hr hcap hn hg h0 (by omega)
  · exact tooBig_lo a b cap mtu w hr hcap hn hg (by omega)
end Go.Proofs.YtbgpjhekohabiaaDoor
