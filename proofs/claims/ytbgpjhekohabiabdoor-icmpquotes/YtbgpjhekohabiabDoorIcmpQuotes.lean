/-
  IcmpQuotes: each of the five errors about any bytes is the document's; the bytes stay.
-/
import Derived.Test.YtbgpjhekohabiabDoorPm
import Derived.Test.YtbgpjhekohabiabDoorParse
import Derived.Test.YtbgpjhekohabiabDoorParse6
import Derived.Test.YtbgpjhekohabiabDoorStp
import Derived.Test.YtbgpjhekohabiabDoorRefP
import Derived.Test.YtbgpjhekohabiabDoorLm
import Derived.Test.YtbgpjhekohabiabDoorKit
import Derived.Deep.CondSized
namespace Go.Proofs.YtbgpjhekohabiabDoor
open Go.ChangeShapes Go.WideShapes Go.ChangeAt Go.RowKit Num
set_option linter.unusedVariables false
set_option maxHeartbeats 4000000
set_option maxRecDepth 100000

def ty4 (k : Nat) : Int := if k < 3 then 3 else 11
def co4 (k : Nat) : Int := if k = 0 then 4 else if k = 1 then 3 else if k = 4 then 1 else 0
def ty6 (k : Nat) : Int := if k = 0 then 2 else if k < 3 then 1 else 3
def co6 (k : Nat) : Int := if k = 1 then 4 else if k = 4 then 1 else 0
def endP (b : List Int) : Nat := min b.length (headN b + 8)
/-- The error about bytes. -/
def aboutP (b : List Int) (k : Nat) : Mg × Int :=
  if (parse4 b).2 = 0 then (⟨4, ty4 k, co4 k, 0, b.take (endP b)⟩, 0) else if (S6.parse6 b).2 = 0 then (⟨6, ty6 k, co6 k, 0, b.take (min b.length 1232)⟩, 0) else (zeroMg, 1)
def bigP (b : List Int) (mtu : Int) : Mg × Int :=
  if 0 ≤ mtu ∧ mtu ≤ 65535 then ({ (aboutP b 0).1 with re := if (aboutP b 0).2 = 0 then mtu else 0 }, (aboutP b 0).2) else (zeroMg, 1)
def errsP (b : List Int) (mtu : Int) (k : Nat) : Mg × Int := if k = 0 then bigP b mtu else aboutP b k
theorem kind4_c (k : Nat) (w : World) (hk : k < 5) : Calls Tryd.prog 94 #[.int .i64 (k : Int)] w fun E w' => E = .returned (.tuple #[.int .i64 (ty4 k), .int .i64 (co4 k)]) ∧ w' = w := by
  obtain rfl | rfl | rfl | rfl | rfl : k = 0 ∨ k = 1 ∨ k = 2 ∨ k = 3 ∨ k = 4 := by omega
  · go_enter Tryd.func94, Tryd.ntmps94
    go_wp2
    go_ret2
    exact ⟨rfl, rfl⟩
  · go_enter Tryd.func94, Tryd.ntmps94
    go_wp2
    go_ret2
    exact ⟨rfl, rfl⟩
  · go_enter Tryd.func94, Tryd.ntmps94
    go_wp2
    go_ret2
    exact ⟨rfl, rfl⟩
  · go_enter Tryd.func94, Tryd.ntmps94
    go_wp2
    go_ret2
    exact ⟨rfl, rfl⟩
  · go_enter Tryd.func94, Tryd.ntmps94
    go_wp2
    go_ret2
    exact ⟨rfl, rfl⟩
theorem kind6_c (k : Nat) (w : World) (hk : k < 5) : Calls Tryd.prog 96 #[.int .i64 (k : Int)] w fun E w' => E = .returned (.tuple #[.int .i64 (ty6 k), .int .i64 (co6 k)]) ∧ w' = w := by
  obtain rfl | rfl | rfl | rfl | rfl : k = 0 ∨ k = 1 ∨ k = 2 ∨ k = 3 ∨ k = 4 := by omega
  · go_enter Tryd.func96, Tryd.ntmps96
    go_wp2
    go_ret2
    exact ⟨rfl, rfl⟩
  · go_enter Tryd.func96, Tryd.ntmps96
    go_wp2
    go_ret2
    exact ⟨rfl, rfl⟩
  · go_enter Tryd.func96, Tryd.ntmps96
    go_wp2
    go_ret2
    exact ⟨rfl, rfl⟩
  · go_enter Tryd.func96, Tryd.ntmps96
    go_wp2
    go_ret2
    exact ⟨rfl, rfl⟩
  · go_enter Tryd.func96, Tryd.ntmps96
    go_wp2
    go_ret2
    exact ⟨rfl, rfl⟩
theorem clone_at (a : Option Addr) (l : List Int) (n cap : Nat) (w : World) (hn : l.length = n) (ha : a = none → cap = 0) (hr : Row w a l) :
    Calls Tryd.prog 71 #[.slice a n cap] w fun e w' => ∃ v, e = .returned v ∧ Owns w' v l ∧ New w.heap.size v ∧ Away [] w w' := by subst hn; exact clone_any a l cap w ha hr
theorem about_four (a : Option Addr) (b : List Int) (cap k : Nat) (w : World) (hk : k < 5) (hr : Row w a b) (hcap : b.length ≤ cap) (hn : a = none → cap = 0) (hg : Glob w) (h4 : (parse4 b).2 = 0) :
    Calls Tryd.prog 67 #[.slice a b.length cap, .int .i64 (k : Int)] w fun E w' => MParseOut w (⟨4, ty4 k, co4 k, 0, b.take (endP b)⟩, 0) E w' := by
  have hlen := hr.1
  have HR := Lib.hid hr
  have HG := Lib.hid hg
  have HW4 := Lib.hid (parse4_wf hr.2.1 hr.1)
  have K4 : Hid (∀ w, Calls Tryd.prog 94 #[.int .i64 (k : Int)] w fun E w' => E = .returned (.tuple #[.int .i64 (ty4 k), .int .i64 (co4 k)]) ∧ w' = w) := fun w => kind4_c k w hk
  have K6 : Hid (∀ w, Calls Tryd.prog 96 #[.int .i64 (k : Int)] w fun E w' => E = .returned (.tuple #[.int .i64 (ty6 k), .int .i64 (co6 k)]) ∧ w' = w) := fun w => kind6_c k w hk
  obtain ⟨hE, -, hpe, hf, hv⟩ := parse4_ok (b := b) (p := (parse4 b).1) (by rw [← h4])
  obtain ⟨h20, -, hk20, hkl, -, -⟩ := headE_ok hE
  have HRT : Hid (headP (parse4 b).1 = (headN b : Int)) := by
    show _ = _
    unfold headP
    rw [if_pos ((right_iff _).2 ⟨hf, hv⟩), hpe]
    show (20 : Int) + ((b.drop 20).take (headN b - 20)).length = _
    rw [List.length_take, List.length_drop]; omega
  have h0 : (parse4 b).2 = 0 := h4
  clear hE hpe hf hv
  clear hr hg
  go_enter Tryd.func67, Tryd.ntmps67
  go_wp2_with (refine wpList_allocM rfl rfl ?_; refine Hid.out ?_)
  refine Lib.hid ?_
  intro g4 w1 hg4 hb haw
  have HA := Lib.hid haw; have HB := Lib.hid hb
  have hl4 := hb.lt
  clear hb haw
  go_wp2_with fail
  refine (parse_c a b _ cap _ rfl hcap hn (by exact HR.out.on HA.out) (by exact HG.out.on HA.out)).mono ?_
  rintro E w2 ⟨ov, dv, rfl, hoo, hdd, -, -, -, haw⟩
  have hs1 := HA.out.size
  replace HA := Lib.hid (HA.out.on haw); replace HB := Lib.hid (HB.out.on haw)
  have HO := Lib.hid hoo; have HD := Lib.hid hdd
  clear hoo hdd haw
  obtain ⟨oa, on, oc, rfl⟩ := HO.out.shp
  obtain ⟨da, dn, dc, rfl⟩ := HD.out.shp
  generalize hp : (parse4 b).1 = p at *
  go_wp2_with (refine wpList_new28 rfl rfl rfl _ _ rfl p (.slice oa on oc) (.slice da dn dc) (fun _ => rfl) (fun _ => rfl) HW4.out.ad rfl rfl ?_; refine Hid.out ?_)
  refine Lib.hid ?_
  intro g6 w3 hg6 hb haw
  have hs2 := HA.out.size
  replace HA := Lib.hid (HA.out.on haw); replace HB := Lib.hid (HB.out.on haw); replace HO := Lib.hid (HO.out.on haw); replace HD := Lib.hid (HD.out.on haw); have HP := Lib.hid hb
  clear hb haw
  have H0 := Lib.hid h0
  go_wp2_with (first | (refine wpList_load28 rfl _ rfl g6 rfl p (.slice oa on oc) (.slice da dn dc) (by exact HP.out) HW4.out.ad ?_))
  refine (head_c p (.slice oa on oc) (.slice da dn dc) _ ⟨HW4.out, by exact HO.out.sl HW4.out.o HW4.out.ol, by exact HD.out.sl HW4.out.d HW4.out.dn⟩ (by exact HG.out.on HA.out)).mono ?_
  rw [HRT.out]
  rintro E w4 ⟨rfl, haw⟩
  replace HA := Lib.hid (HA.out.on haw); replace HB := Lib.hid (HB.out.on haw)
  clear haw HO HD HP
  generalize hN : headN b = N at *
  by_cases hle : b.length ≤ N + 8
  · have HEN : Hid (endP b = b.length) := by show _ = _; unfold endP; rw [hN]; exact Nat.min_eq_left hle
    have hle' : (b.length : Int) ≤ (N : Int) + 8 := by omega
    have hle2 : ¬ ((N : Int) + 8 < (b.length : Int)) := by omega
    have s1 := slice_h a b.length cap b.length ((b.length : Int)) (by rfl) (by omega)
    go_wp2_with fail
    refine (K4.out _).mono ?_
    rintro E w5 ⟨rfl, hw5⟩
    subst hw5
    go_wp2_with fail
    clear s1
    refine (clone_at a (b.take b.length) _ cap _ (by simp) hn (by exact (HR.out.on HA.out).head _)).mono ?_
    rintro E w6 ⟨v, rfl, hv, hnv, haw⟩
    have hs6 := HA.out.size
    have hl46 := HB.out.lt
    replace HA := Lib.hid (HA.out.on haw); replace HB := Lib.hid (HB.out.on haw)
    have HV := Lib.hid hv; have HN := Lib.hid hnv
    clear hv hnv haw
    obtain ⟨va, vn, vc, rfl⟩ := HV.out.shp
    go_wp2_with (refine wpList_storeM rfl _ _ rfl g4 rfl ⟨4, ty4 k, co4 k, 0, b.take b.length⟩ (.slice va vn vc) rfl zeroMg (.slice none 0 0) (by exact HB.out) rfl ?_; refine Hid.out ?_)
    refine Lib.hid ?_
    intro wz hb haw
    have HZ := Lib.hid hb
    replace HA : Hid (Away [] w wz) := HA.out.next haw (fun x hx => .inr (by simp at hx; omega))
    replace HV := Lib.hid (HV.out.away haw (fun k hk => by have := HN.out k hk; simp; omega))
    clear hb haw
    go_wp2_with fail
    refine bodyPost_ret (resultMt rfl _ _ _ _ _ _ rfl rfl HZ.out) rfl ?_
    rw [HEN.out]
    exact ⟨_, rfl, HV.out, fun k hk => by have := HN.out k hk; omega, HA.out⟩
  · have HEN : Hid (endP b = (N + 8)) := by show _ = _; unfold endP; rw [hN]; exact Nat.min_eq_right (by omega)
    have hle' : ¬ (b.length : Int) ≤ (N : Int) + 8 := by omega
    have hle2 : (N : Int) + 8 < (b.length : Int) := by omega
    have s1 := slice_h a b.length cap (N + 8) ((N : Int) + 8) (by omega) (by omega)
    go_wp2_with fail
    refine (K4.out _).mono ?_
    rintro E w5 ⟨rfl, hw5⟩
    subst hw5
    go_wp2_with fail
    clear s1
    refine (clone_at a (b.take (N + 8)) _ cap _ (by simp; omega) hn (by exact (HR.out.on HA.out).head _)).mono ?_
    rintro E w6 ⟨v, rfl, hv, hnv, haw⟩
    have hs6 := HA.out.size
    have hl46 := HB.out.lt
    replace HA := Lib.hid (HA.out.on haw); replace HB := Lib.hid (HB.out.on haw)
    have HV := Lib.hid hv; have HN := Lib.hid hnv
    clear hv hnv haw
    obtain ⟨va, vn, vc, rfl⟩ := HV.out.shp
    go_wp2_with (refine wpList_storeM rfl _ _ rfl g4 rfl ⟨4, ty4 k, co4 k, 0, b.take (N + 8)⟩ (.slice va vn vc) rfl zeroMg (.slice none 0 0) (by exact HB.out) rfl ?_; refine Hid.out ?_)
    refine Lib.hid ?_
    intro wz hb haw
    have HZ := Lib.hid hb
    replace HA : Hid (Away [] w wz) := HA.out.next haw (fun x hx => .inr (by simp at hx; omega))
    replace HV := Lib.hid (HV.out.away haw (fun k hk => by have := HN.out k hk; simp; omega))
    clear hb haw
    go_wp2_with fail
    refine bodyPost_ret (resultMt rfl _ _ _ _ _ _ rfl rfl HZ.out) rfl ?_
    rw [HEN.out]
    exact ⟨_, rfl, HV.out, fun k hk => by have := HN.out k hk; omega, HA.out⟩
theorem about_six (a : Option Addr) (b : List Int) (cap k : Nat) (w : World) (hk : k < 5) (hr : Row w a b) (hcap : b.length ≤ cap) (hn : a = none → cap = 0) (hg : Glob w) (h4 : (parse4 b).2 ≠ 0) (h6 : (S6.parse6 b).2 = 0) :
    Calls Tryd.prog 67 #[.slice a b.length cap, .int .i64 (k : Int)] w fun E w' => MParseOut w (⟨6, ty6 k, co6 k, 0, b.take (min b.length 1232)⟩, 0) E w' := by
  have hlen := hr.1
  have HR := Lib.hid hr
  have HG := Lib.hid hg
  have HW4 := Lib.hid (parse4_wf hr.2.1 hr.1)
  have K4 : Hid (∀ w, Calls Tryd.prog 94 #[.int .i64 (k : Int)] w fun E w' => E = .returned (.tuple #[.int .i64 (ty4 k), .int .i64 (co4 k)]) ∧ w' = w) := fun w => kind4_c k w hk
  have K6 : Hid (∀ w, Calls Tryd.prog 96 #[.int .i64 (k : Int)] w fun E w' => E = .returned (.tuple #[.int .i64 (ty6 k), .int .i64 (co6 k)]) ∧ w' = w) := fun w => kind6_c k w hk
  obtain ⟨e4, he4⟩ : ∃ e, e = (parse4 b).2 := ⟨_, rfl⟩
  have h4' : (e4 == 0) = false := by rw [he4]; simpa using h4
  have HW6 := Lib.hid (S6.parse6_wf hr.2.1 hr.1)
  have HB6 := Lib.hid hr.2.1
  clear hr hg
  go_enter Tryd.func67, Tryd.ntmps67
  go_wp2_with (refine wpList_allocM rfl rfl ?_; refine Hid.out ?_)
  refine Lib.hid ?_
  intro g4 w1 hg4 hb haw
  have HA := Lib.hid haw; have HB := Lib.hid hb
  have hl4 := hb.lt
  clear hb haw
  go_wp2_with fail
  refine (parse_c a b _ cap _ rfl hcap hn (by exact HR.out.on HA.out) (by exact HG.out.on HA.out)).mono ?_
  rintro E w2 ⟨ov, dv, rfl, hoo, hdd, -, -, -, haw⟩
  have hs1 := HA.out.size
  replace HA := Lib.hid (HA.out.on haw); replace HB := Lib.hid (HB.out.on haw)
  have HO := Lib.hid hoo; have HD := Lib.hid hdd
  clear hoo hdd haw
  obtain ⟨oa, on, oc, rfl⟩ := HO.out.shp
  obtain ⟨da, dn, dc, rfl⟩ := HD.out.shp
  generalize hp : (parse4 b).1 = p at *
  go_wp2_with (refine wpList_new28 rfl rfl rfl _ _ rfl p (.slice oa on oc) (.slice da dn dc) (fun _ => rfl) (fun _ => rfl) HW4.out.ad rfl rfl ?_; refine Hid.out ?_)
  refine Lib.hid ?_
  intro g6 w3 hg6 hb haw
  have hs2 := HA.out.size
  replace HA := Lib.hid (HA.out.on haw); replace HB := Lib.hid (HB.out.on haw); replace HO := Lib.hid (HO.out.on haw); replace HD := Lib.hid (HD.out.on haw); have HP := Lib.hid hb
  clear hb haw
  rw [← he4]
  clear he4 h4
  go_wp2_with fail
  refine (S6.parse_c a b _ cap _ rfl hcap hn (by exact HR.out.on HA.out)).mono ?_
  rintro E w4 ⟨ov, dv, rfl, hoo, hdd, -, -, -, haw⟩
  have hs3 := HA.out.size
  replace HA := Lib.hid (HA.out.on haw); replace HB := Lib.hid (HB.out.on haw)
  clear haw HO HD HP
  obtain ⟨oa2, on2, oc2, rfl⟩ := hoo.shp
  obtain ⟨da2, dn2, dc2, rfl⟩ := hdd.shp
  clear hoo hdd
  generalize hq : (S6.parse6 b).1 = q at *
  go_wp2_with (refine wpList_new28 rfl rfl rfl _ _ rfl q (.slice oa2 on2 oc2) (.slice da2 dn2 dc2) (fun _ => rfl) (fun _ => rfl) HW6.out.ad rfl rfl ?_; refine Hid.out ?_)
  refine Lib.hid ?_
  intro g11 w5 hg11 hb haw
  replace HA := Lib.hid (HA.out.on haw); replace HB := Lib.hid (HB.out.on haw)
  clear hb haw
  by_cases hle : b.length ≤ 1232
  · have HEN : Hid (min b.length 1232 = b.length) := Nat.min_eq_left hle
    have hle' : (b.length : Int) ≤ 1232 := by omega
    have hle2 : ¬ (1232 < (b.length : Int)) := by omega
    have s1 := slice_h a b.length cap b.length ((b.length : Int)) rfl (by omega)
    go_wp2_with fail
    refine (K6.out _).mono ?_
    rintro E w5' ⟨rfl, hw5⟩
    subst hw5
    go_wp2_with fail
    clear s1
    refine (clone_at a (b.take b.length) _ cap _ (by simp) hn (by exact (HR.out.on HA.out).head _)).mono ?_
    rintro E w6 ⟨v, rfl, hv, hnv, haw⟩
    have hs6 := HA.out.size
    have hl46 := HB.out.lt
    replace HA := Lib.hid (HA.out.on haw); replace HB := Lib.hid (HB.out.on haw)
    have HV := Lib.hid hv; have HN := Lib.hid hnv
    clear hv hnv haw
    obtain ⟨va, vn, vc, rfl⟩ := HV.out.shp
    go_wp2_with (refine wpList_storeM rfl _ _ rfl g4 rfl ⟨6, ty6 k, co6 k, 0, b.take b.length⟩ (.slice va vn vc) rfl zeroMg (.slice none 0 0) (by exact HB.out) rfl ?_; refine Hid.out ?_)
    refine Lib.hid ?_
    intro wz hb haw
    have HZ := Lib.hid hb
    replace HA : Hid (Away [] w wz) := HA.out.next haw (fun x hx => .inr (by simp at hx; omega))
    replace HV := Lib.hid (HV.out.away haw (fun k hk => by have := HN.out k hk; simp; omega))
    clear hb haw
    go_wp2_with fail
    refine bodyPost_ret (resultMt rfl _ _ _ _ _ _ rfl rfl HZ.out) rfl ?_
    rw [HEN.out]
    exact ⟨_, rfl, HV.out, fun k hk => by have := HN.out k hk; omega, HA.out⟩
  · have HEN : Hid (min b.length 1232 = 1232) := Nat.min_eq_right (by omega)
    have hle' : ¬ (b.length : Int) ≤ 1232 := by omega
    have hle2 : 1232 < (b.length : Int) := by omega
    have s1 := slice_h a b.length cap 1232 (1232) rfl (by omega)
    go_wp2_with fail
    refine (K6.out _).mono ?_
    rintro E w5' ⟨rfl, hw5⟩
    subst hw5
    go_wp2_with fail
    clear s1
    refine (clone_at a (b.take 1232) _ cap _ (by simp; omega) hn (by exact (HR.out.on HA.out).head _)).mono ?_
    rintro E w6 ⟨v, rfl, hv, hnv, haw⟩
    have hs6 := HA.out.size
    have hl46 := HB.out.lt
    replace HA := Lib.hid (HA.out.on haw); replace HB := Lib.hid (HB.out.on haw)
    have HV := Lib.hid hv; have HN := Lib.hid hnv
    clear hv hnv haw
    obtain ⟨va, vn, vc, rfl⟩ := HV.out.shp
    go_wp2_with (refine wpList_storeM rfl _ _ rfl g4 rfl ⟨6, ty6 k, co6 k, 0, b.take 1232⟩ (.slice va vn vc) rfl zeroMg (.slice none 0 0) (by exact HB.out) rfl ?_; refine Hid.out ?_)
    refine Lib.hid ?_
    intro wz hb haw
    have HZ := Lib.hid hb
    replace HA : Hid (Away [] w wz) := HA.out.next haw (fun x hx => .inr (by simp at hx; omega))
    replace HV := Lib.hid (HV.out.away haw (fun k hk => by have := HN.out k hk; simp; omega))
    clear hb haw
    go_wp2_with fail
    refine bodyPost_ret (resultMt rfl _ _ _ _ _ _ rfl rfl HZ.out) rfl ?_
    rw [HEN.out]
    exact ⟨_, rfl, HV.out, fun k hk => by have := HN.out k hk; omega, HA.out⟩
theorem about_none (a : Option Addr) (b : List Int) (cap k : Nat) (w : World) (hk : k < 5) (hr : Row w a b) (hcap : b.length ≤ cap) (hn : a = none → cap = 0) (hg : Glob w) (h4 : (parse4 b).2 ≠ 0) (h6 : (S6.parse6 b).2 ≠ 0) :
    Calls Tryd.prog 67 #[.slice a b.length cap, .int .i64 (k : Int)] w fun E w' => MParseOut w (zeroMg, 1) E w' := by
  have hlen := hr.1
  have HR := Lib.hid hr
  have HG := Lib.hid hg
  have HW4 := Lib.hid (parse4_wf hr.2.1 hr.1)
  have K4 : Hid (∀ w, Calls Tryd.prog 94 #[.int .i64 (k : Int)] w fun E w' => E = .returned (.tuple #[.int .i64 (ty4 k), .int .i64 (co4 k)]) ∧ w' = w) := fun w => kind4_c k w hk
  have K6 : Hid (∀ w, Calls Tryd.prog 96 #[.int .i64 (k : Int)] w fun E w' => E = .returned (.tuple #[.int .i64 (ty6 k), .int .i64 (co6 k)]) ∧ w' = w) := fun w => kind6_c k w hk
  obtain ⟨e4, he4⟩ : ∃ e, e = (parse4 b).2 := ⟨_, rfl⟩
  have h4' : (e4 == 0) = false := by rw [he4]; simpa using h4
  have HW6 := Lib.hid (S6.parse6_wf hr.2.1 hr.1)
  have HB6 := Lib.hid hr.2.1
  obtain ⟨e6, he6⟩ : ∃ e, e = (S6.parse6 b).2 := ⟨_, rfl⟩
  have h6' : (e6 == 0) = false := by rw [he6]; simpa using h6
  clear hr hg
  go_enter Tryd.func67, Tryd.ntmps67
  go_wp2_with (refine wpList_allocM rfl rfl ?_; refine Hid.out ?_)
  refine Lib.hid ?_
  intro g4 w1 hg4 hb haw
  have HA := Lib.hid haw; have HB := Lib.hid hb
  have hl4 := hb.lt
  clear hb haw
  go_wp2_with fail
  refine (parse_c a b _ cap _ rfl hcap hn (by exact HR.out.on HA.out) (by exact HG.out.on HA.out)).mono ?_
  rintro E w2 ⟨ov, dv, rfl, hoo, hdd, -, -, -, haw⟩
  have hs1 := HA.out.size
  replace HA := Lib.hid (HA.out.on haw); replace HB := Lib.hid (HB.out.on haw)
  have HO := Lib.hid hoo; have HD := Lib.hid hdd
  clear hoo hdd haw
  obtain ⟨oa, on, oc, rfl⟩ := HO.out.shp
  obtain ⟨da, dn, dc, rfl⟩ := HD.out.shp
  generalize hp : (parse4 b).1 = p at *
  go_wp2_with (refine wpList_new28 rfl rfl rfl _ _ rfl p (.slice oa on oc) (.slice da dn dc) (fun _ => rfl) (fun _ => rfl) HW4.out.ad rfl rfl ?_; refine Hid.out ?_)
  refine Lib.hid ?_
  intro g6 w3 hg6 hb haw
  have hs2 := HA.out.size
  replace HA := Lib.hid (HA.out.on haw); replace HB := Lib.hid (HB.out.on haw); replace HO := Lib.hid (HO.out.on haw); replace HD := Lib.hid (HD.out.on haw); have HP := Lib.hid hb
  clear hb haw
  rw [← he4]
  clear he4 h4
  go_wp2_with fail
  refine (S6.parse_c a b _ cap _ rfl hcap hn (by exact HR.out.on HA.out)).mono ?_
  rintro E w4 ⟨ov, dv, rfl, hoo, hdd, -, -, -, haw⟩
  have hs3 := HA.out.size
  replace HA := Lib.hid (HA.out.on haw); replace HB := Lib.hid (HB.out.on haw)
  clear haw HO HD HP
  obtain ⟨oa2, on2, oc2, rfl⟩ := hoo.shp
  obtain ⟨da2, dn2, dc2, rfl⟩ := hdd.shp
  clear hoo hdd
  rw [← he6]
  clear he6 h6
  generalize hq : (S6.parse6 b).1 = q at *
  go_wp2_with (refine wpList_new28 rfl rfl rfl _ _ rfl q (.slice oa2 on2 oc2) (.slice da2 dn2 dc2) (fun _ => rfl) (fun _ => rfl) HW6.out.ad rfl rfl ?_; refine Hid.out ?_)
  refine Lib.hid ?_
  intro g11 w5 hg11 hb haw
  replace HA := Lib.hid (HA.out.on haw); replace HB := Lib.hid (HB.out.on haw)
  clear hb haw
  go_wp2_with (refine wpList_storeM rfl _ _ rfl g4 rfl zeroMg (.slice none 0 0) rfl zeroMg (.slice none 0 0) (by exact HB.out) rfl ?_; refine Hid.out ?_)
  refine Lib.hid ?_
  intro wz hb haw
  have HZ := Lib.hid hb
  replace HA : Hid (Away [] w wz) := HA.out.next haw (fun x hx => .inr (by simp at hx; omega))
  clear hb haw
  go_wp2_with fail
  refine bodyPost_ret (resultMt rfl _ _ _ _ _ _ rfl rfl HZ.out) rfl ⟨_, rfl, Owns.nil _, New.nil _, HA.out⟩
theorem about_c (a : Option Addr) (b : List Int) (cap k : Nat) (w : World) (hk : k < 5) (hr : Row w a b) (hcap : b.length ≤ cap) (hn : a = none → cap = 0) (hg : Glob w) :
    Calls Tryd.prog 67 #[.slice a b.length cap, .int .i64 (k : Int)] w fun E w' => MParseOut w (aboutP b k) E w' := by
  unfold aboutP
  by_cases h4 : (parse4 b).2 = 0
  · rw [if_pos h4]; exact about_four a b cap k w hk hr hcap hn hg h4
  · rw [if_neg h4]
    by_cases h6 : (S6.parse6 b).2 = 0
    · rw [if_pos h6]; exact about_six a b cap k w hk hr hcap hn hg h4 h6
    · rw [if_neg h6]; exact about_none a b cap k w hk hr hcap hn hg h4 h6
#print axioms about_c
theorem noPort_c (a : Option Addr) (b : List Int) (cap : Nat) (w : World) (hr : Row w a b) (hcap : b.length ≤ cap) (hn : a = none → cap = 0) (hg : Glob w) :
    Calls Tryd.prog 33 #[.slice a b.length cap] w fun E w' => MParseOut w (aboutP b 1) E w' := by
  have K : Hid (∀ W, Away [] w W → Calls Tryd.prog 67 #[.slice a b.length cap, .int .i64 1] W fun E w' => MParseOut W (aboutP b 1) E w') := fun W h => about_c a b cap 1 W (by omega) (hr.on h) hcap hn (hg.on h)
  clear hr hg
  generalize aboutP b 1 = r at *
  go_enter Tryd.func33, Tryd.ntmps33
  go_wp2_with (refine wpList_allocM rfl rfl ?_; refine Hid.out ?_)
  refine Lib.hid ?_
  intro g4 w1 hg4 hb haw
  have HA := Lib.hid haw; have HB := Lib.hid hb
  have hl4 := hb.lt
  clear hb haw
  go_wp2_with fail
  refine (K.out _ HA.out).mono ?_
  rintro E w2 ⟨v, rfl, hv, hnv, haw⟩
  have hs1 := HA.out.size
  replace HA := Lib.hid (HA.out.on haw); replace HB := Lib.hid (HB.out.on haw)
  have HV := Lib.hid hv; have HN := Lib.hid hnv
  clear hv hnv haw K
  obtain ⟨va, vn, vc, rfl⟩ := HV.out.shp
  obtain ⟨m, e⟩ := r
  go_wp2_with (refine wpList_storeM rfl _ _ rfl g4 rfl m (.slice va vn vc) rfl zeroMg (.slice none 0 0) (by exact HB.out) rfl ?_; refine Hid.out ?_)
  refine Lib.hid ?_
  intro wz hb haw
  have HZ := Lib.hid hb
  replace HA : Hid (Away [] w wz) := HA.out.next haw (fun x hx => .inr (by simp at hx; omega))
  replace HV := Lib.hid (HV.out.away haw (fun k hk => by have := HN.out k hk; simp; omega))
  clear hb haw
  go_wp2_with fail
  refine bodyPost_ret (resultMt rfl _ _ _ _ _ _ rfl rfl HZ.out) rfl ⟨_, rfl, HV.out, fun k hk => by have := HN.out k hk; omega, HA.out⟩
theorem noRoute_c (a : Option Addr) (b : List Int) (cap : Nat) (w : World) (hr : Row w a b) (hcap : b.length ≤ cap) (hn : a = none → cap = 0) (hg : Glob w) :
    Calls Tryd.prog 34 #[.slice a b.length cap] w fun E w' => MParseOut w (aboutP b 2) E w' := by
  have K : Hid (∀ W, Away [] w W → Calls Tryd.prog 67 #[.slice a b.length cap, .int .i64 2] W fun E w' => MParseOut W (aboutP b 2) E w') := fun W h => about_c a b cap 2 W (by omega) (hr.on h) hcap hn (hg.on h)
  clear hr hg
  generalize aboutP b 2 = r at *
  go_enter Tryd.func34, Tryd.ntmps34
  go_wp2_with (refine wpList_allocM rfl rfl ?_; refine Hid.out ?_)
  refine Lib.hid ?_
  intro g4 w1 hg4 hb haw
  have HA := Lib.hid haw; have HB := Lib.hid hb
  have hl4 := hb.lt
  clear hb haw
  go_wp2_with fail
  refine (K.out _ HA.out).mono ?_
  rintro E w2 ⟨v, rfl, hv, hnv, haw⟩
  have hs1 := HA.out.size
  replace HA := Lib.hid (HA.out.on haw); replace HB := Lib.hid (HB.out.on haw)
  have HV := Lib.hid hv; have HN := Lib.hid hnv
  clear hv hnv haw K
  obtain ⟨va, vn, vc, rfl⟩ := HV.out.shp
  obtain ⟨m, e⟩ := r
  go_wp2_with (refine wpList_storeM rfl _ _ rfl g4 rfl m (.slice va vn vc) rfl zeroMg (.slice none 0 0) (by exact HB.out) rfl ?_; refine Hid.out ?_)
  refine Lib.hid ?_
  intro wz hb haw
  have HZ := Lib.hid hb
  replace HA : Hid (Away [] w wz) := HA.out.next haw (fun x hx => .inr (by simp at hx; omega))
  replace HV := Lib.hid (HV.out.away haw (fun k hk => by have := HN.out k hk; simp; omega))
  clear hb haw
  go_wp2_with fail
  refine bodyPost_ret (resultMt rfl _ _ _ _ _ _ rfl rfl HZ.out) rfl ⟨_, rfl, HV.out, fun k hk => by have := HN.out k hk; omega, HA.out⟩
theorem timeUp_c (a : Option Addr) (b : List Int) (cap : Nat) (w : World) (hr : Row w a b) (hcap : b.length ≤ cap) (hn : a = none → cap = 0) (hg : Glob w) :
    Calls Tryd.prog 35 #[.slice a b.length cap] w fun E w' => MParseOut w (aboutP b 3) E w' := by
  have K : Hid (∀ W, Away [] w W → Calls Tryd.prog 67 #[.slice a b.length cap, .int .i64 3] W fun E w' => MParseOut W (aboutP b 3) E w') := fun W h => about_c a b cap 3 W (by omega) (hr.on h) hcap hn (hg.on h)
  clear hr hg
  generalize aboutP b 3 = r at *
  go_enter Tryd.func35, Tryd.ntmps35
  go_wp2_with (refine wpList_allocM rfl rfl ?_; refine Hid.out ?_)
  refine Lib.hid ?_
  intro g4 w1 hg4 hb haw
  have HA := Lib.hid haw; have HB := Lib.hid hb
  have hl4 := hb.lt
  clear hb haw
  go_wp2_with fail
  refine (K.out _ HA.out).mono ?_
  rintro E w2 ⟨v, rfl, hv, hnv, haw⟩
  have hs1 := HA.out.size
  replace HA := Lib.hid (HA.out.on haw); replace HB := Lib.hid (HB.out.on haw)
  have HV := Lib.hid hv; have HN := Lib.hid hnv
  clear hv hnv haw K
  obtain ⟨va, vn, vc, rfl⟩ := HV.out.shp
  obtain ⟨m, e⟩ := r
  go_wp2_with (refine wpList_storeM rfl _ _ rfl g4 rfl m (.slice va vn vc) rfl zeroMg (.slice none 0 0) (by exact HB.out) rfl ?_; refine Hid.out ?_)
  refine Lib.hid ?_
  intro wz hb haw
  have HZ := Lib.hid hb
  replace HA : Hid (Away [] w wz) := HA.out.next haw (fun x hx => .inr (by simp at hx; omega))
  replace HV := Lib.hid (HV.out.away haw (fun k hk => by have := HN.out k hk; simp; omega))
  clear hb haw
  go_wp2_with fail
  refine bodyPost_ret (resultMt rfl _ _ _ _ _ _ rfl rfl HZ.out) rfl ⟨_, rfl, HV.out, fun k hk => by have := HN.out k hk; omega, HA.out⟩
theorem lateParts_c (a : Option Addr) (b : List Int) (cap : Nat) (w : World) (hr : Row w a b) (hcap : b.length ≤ cap) (hn : a = none → cap = 0) (hg : Glob w) :
    Calls Tryd.prog 36 #[.slice a b.length cap] w fun E w' => MParseOut w (aboutP b 4) E w' := by
  have K : Hid (∀ W, Away [] w W → Calls Tryd.prog 67 #[.slice a b.length cap, .int .i64 4] W fun E w' => MParseOut W (aboutP b 4) E w') := fun W h => about_c a b cap 4 W (by omega) (hr.on h) hcap hn (hg.on h)
  clear hr hg
  generalize aboutP b 4 = r at *
  go_enter Tryd.func36, Tryd.ntmps36
  go_wp2_with (refine wpList_allocM rfl rfl ?_; refine Hid.out ?_)
  refine Lib.hid ?_
  intro g4 w1 hg4 hb haw
  have HA := Lib.hid haw; have HB := Lib.hid hb
  have hl4 := hb.lt
  clear hb haw
  go_wp2_with fail
  refine (K.out _ HA.out).mono ?_
  rintro E w2 ⟨v, rfl, hv, hnv, haw⟩
  have hs1 := HA.out.size
  replace HA := Lib.hid (HA.out.on haw); replace HB := Lib.hid (HB.out.on haw)
  have HV := Lib.hid hv; have HN := Lib.hid hnv
  clear hv hnv haw K
  obtain ⟨va, vn, vc, rfl⟩ := HV.out.shp
  obtain ⟨m, e⟩ := r
  go_wp2_with (refine wpList_storeM rfl _ _ rfl g4 rfl m (.slice va vn vc) rfl zeroMg (.slice none 0 0) (by exact HB.out) rfl ?_; refine Hid.out ?_)
  refine Lib.hid ?_
  intro wz hb haw
  have HZ := Lib.hid hb
  replace HA : Hid (Away [] w wz) := HA.out.next haw (fun x hx => .inr (by simp at hx; omega))
  replace HV := Lib.hid (HV.out.away haw (fun k hk => by have := HN.out k hk; simp; omega))
  clear hb haw
  go_wp2_with fail
  refine bodyPost_ret (resultMt rfl _ _ _ _ _ _ rfl rfl HZ.out) rfl ⟨_, rfl, HV.out, fun k hk => by have := HN.out k hk; omega, HA.out⟩
theorem about_re (b : List Int) (k : Nat) : (aboutP b k).1.re = 0 ∧ ((aboutP b k).2 = 0 ∨ (aboutP b k).2 = 1) := by
  unfold aboutP
  split
  · exact ⟨rfl, .inl rfl⟩
  · split
    · exact ⟨rfl, .inl rfl⟩
    · exact ⟨rfl, .inr rfl⟩
theorem tooBig_lo (a : Option Addr) (b : List Int) (cap : Nat) (mtu : Int) (w : World) (hr : Row w a b) (hcap : b.length ≤ cap) (hn : a = none → cap = 0) (hg : Glob w) (h : mtu < 0) :
    Calls Tryd.prog 32 #[.slice a b.length cap, .int .i64 mtu] w fun E w' => MParseOut w (bigP b mtu) E w' := by
  have K : Hid (∀ W, Away [] w W → Calls Tryd.prog 67 #[.slice a b.length cap, .int .i64 0] W fun E w' => MParseOut W (aboutP b 0) E w') := fun W h => about_c a b cap 0 W (by omega) (hr.on h) hcap hn (hg.on h)
  have hre := about_re b 0
  have HBG : Hid (bigP b mtu = if 0 ≤ mtu ∧ mtu ≤ 65535 then ({ (aboutP b 0).1 with re := if (aboutP b 0).2 = 0 then mtu else 0 }, (aboutP b 0).2) else (zeroMg, 1)) := rfl
  clear hr hg
  generalize bigP b mtu = r at *
  generalize aboutP b 0 = q at *
  obtain ⟨⟨v, ty, co, re, d⟩, e⟩ := q
  simp only at hre
  obtain ⟨rfl, he⟩ := hre
  go_enter Tryd.func32, Tryd.ntmps32
  go_wp2_with (refine wpList_allocM rfl rfl ?_; refine Hid.out ?_)
  refine Lib.hid ?_
  intro g4 w1 hg4 hb haw
  have HA := Lib.hid haw; have HB := Lib.hid hb
  have hl4 := hb.lt
  clear hb haw
  obtain rfl : r = (zeroMg, 1) := by rw [HBG.out, if_neg (by omega)]
  go_wp2_with (refine wpList_storeM rfl _ _ rfl g4 rfl zeroMg (.slice none 0 0) rfl zeroMg (.slice none 0 0) (by exact HB.out) rfl ?_; refine Hid.out ?_)
  refine Lib.hid ?_
  intro wz hb haw
  have HZ := Lib.hid hb
  replace HA : Hid (Away [] w wz) := HA.out.next haw (fun x hx => .inr (by simp at hx; omega))
  clear hb haw
  go_wp2_with fail
  refine bodyPost_ret (resultMt rfl _ _ _ _ _ _ rfl rfl HZ.out) rfl ⟨_, rfl, Owns.nil _, New.nil _, HA.out⟩
theorem tooBig_hi (a : Option Addr) (b : List Int) (cap : Nat) (mtu : Int) (w : World) (hr : Row w a b) (hcap : b.length ≤ cap) (hn : a = none → cap = 0) (hg : Glob w) (h0 : 0 ≤ mtu) (h : 65535 < mtu) :
    Calls Tryd.prog 32 #[.slice a b.length cap, .int .i64 mtu] w fun E w' => MParseOut w (bigP b mtu) E w' := by
  have K : Hid (∀ W, Away [] w W → Calls Tryd.prog 67 #[.slice a b.length cap, .int .i64 0] W fun E w' => MParseOut W (aboutP b 0) E w') := fun W h => about_c a b cap 0 W (by omega) (hr.on h) hcap hn (hg.on h)
  have hre := about_re b 0
  have HBG : Hid (bigP b mtu = if 0 ≤ mtu ∧ mtu ≤ 65535 then ({ (aboutP b 0).1 with re := if (aboutP b 0).2 = 0 then mtu else 0 }, (aboutP b 0).2) else (zeroMg, 1)) := rfl
  clear hr hg
  generalize bigP b mtu = r at *
  generalize aboutP b 0 = q at *
  obtain ⟨⟨v, ty, co, re, d⟩, e⟩ := q
  simp only at hre
  obtain ⟨rfl, he⟩ := hre
  go_enter Tryd.func32, Tryd.ntmps32
  go_wp2_with (refine wpList_allocM rfl rfl ?_; refine Hid.out ?_)
  refine Lib.hid ?_
  intro g4 w1 hg4 hb haw
  have HA := Lib.hid haw; have HB := Lib.hid hb
  have hl4 := hb.lt
  clear hb haw
  obtain rfl : r = (zeroMg, 1) := by rw [HBG.out, if_neg (by omega)]
  go_wp2_with (refine wpList_storeM rfl _ _ rfl g4 rfl zeroMg (.slice none 0 0) rfl zeroMg (.slice none 0 0) (by exact HB.out) rfl ?_; refine Hid.out ?_)
  refine Lib.hid ?_
  intro wz hb haw
  have HZ := Lib.hid hb
  replace HA : Hid (Away [] w wz) := HA.out.next haw (fun x hx => .inr (by simp at hx; omega))
  clear hb haw
  go_wp2_with fail
  refine bodyPost_ret (resultMt rfl _ _ _ _ _ _ rfl rfl HZ.out) rfl ⟨_, rfl, Owns.nil _, New.nil _, HA.out⟩
theorem tooBig_in (a : Option Addr) (b : List Int) (cap : Nat) (mtu : Int) (w : World) (hr : Row w a b) (hcap : b.length ≤ cap) (hn : a = none → cap = 0) (hg : Glob w) (h0 : 0 ≤ mtu) (h1 : mtu ≤ 65535) :
    Calls Tryd.prog 32 #[.slice a b.length cap, .int .i64 mtu] w fun E w' => MParseOut w (bigP b mtu) E w' := by
  have K : Hid (∀ W, Away [] w W → Calls Tryd.prog 67 #[.slice a b.length cap, .int .i64 0] W fun E w' => MParseOut W (aboutP b 0) E w') := fun W h => about_c a b cap 0 W (by omega) (hr.on h) hcap hn (hg.on h)
  have hre := about_re b 0
  have HBG : Hid (bigP b mtu = if 0 ≤ mtu ∧ mtu ≤ 65535 then ({ (aboutP b 0).1 with re := if (aboutP b 0).2 = 0 then mtu else 0 }, (aboutP b 0).2) else (zeroMg, 1)) := rfl
  clear hr hg
  generalize bigP b mtu = r at *
  generalize aboutP b 0 = q at *
  obtain ⟨⟨v, ty, co, re, d⟩, e⟩ := q
  simp only at hre
  obtain ⟨rfl, he⟩ := hre
  go_enter Tryd.func32, Tryd.ntmps32
  go_wp2_with (refine wpList_allocM rfl rfl ?_; refine Hid.out ?_)
  refine Lib.hid ?_
  intro g4 w1 hg4 hb haw
  have HA := Lib.hid haw; have HB := Lib.hid hb
  have hl4 := hb.lt
  clear hb haw
  go_wp2_with fail
  refine (K.out _ HA.out).mono ?_
  rintro E w2 ⟨vv, rfl, hv, hnv, haw⟩
  have hs1 := HA.out.size
  replace HA := Lib.hid (HA.out.on haw); replace HB := Lib.hid (HB.out.on haw)
  have HV := Lib.hid hv; have HN := Lib.hid hnv; have HVL := Lib.hid hv.lt
  clear hv hnv haw K
  obtain ⟨va, vn, vc, rfl⟩ := HV.out.shp
  go_wp2_with (refine wpList_newM rfl rfl rfl _ _ rfl ⟨v, ty, co, 0, d⟩ (.slice va vn vc) (fun _ => rfl) (fun _ => rfl) rfl ?_; refine Hid.out ?_)
  refine Lib.hid ?_
  intro g6 w3 hg6 hb haw
  have hs2 := HA.out.size
  have hlb := HB.out.lt
  replace HA := Lib.hid (HA.out.on haw); replace HB := Lib.hid (HB.out.on haw); replace HV := Lib.hid (HV.out.on haw); have HC := Lib.hid hb
  clear hb haw
  rcases he with rfl | rfl
  · obtain rfl : r = (⟨v, ty, co, mtu, d⟩, 0) := by rw [HBG.out, if_pos ⟨h0, h1⟩]; rfl
    have c3 := HC.out.c3; have f3 := HC.out.free 3
    have haw := away_put (w := w3) (g := g6) 3 (.int .u32 mtu)
    have hl6 := HC.out.lt
    have hc := HC.out.put 3 (.int .u32 mtu) (g' := ⟨v, ty, co, mtu, d⟩) (dv' := .slice va vn vc) rfl
    replace HA := Lib.hid (HA.out.next haw (fun x hx => .inr (by simp at hx; omega)))
    replace HB := Lib.hid (HB.out.away haw (by simp; omega))
    replace HV := Lib.hid (HV.out.away haw (fun k hk => by have h2 := HVL.out k hk; simp; omega))
    replace HC := Lib.hid hc
    clear hc haw
    go_upto_region 6 with fail
    clear c3 f3
    generalize w3.setCell ⟨g6, 3, none⟩ (.int .u32 mtu) = w4 at *
    go_wp2_with (first | (refine wpList_loadM rfl _ rfl g6 rfl ⟨v, ty, co, mtu, d⟩ (.slice va vn vc) (by exact HC.out) ?_) | (refine wpList_storeM rfl _ _ rfl g4 rfl ⟨v, ty, co, mtu, d⟩ (.slice va vn vc) rfl zeroMg (.slice none 0 0) (by exact HB.out) rfl ?_; refine Hid.out ?_))
    refine Lib.hid ?_
    intro wz hb haw
    have HZ := Lib.hid hb
    replace HA : Hid (Away [] w wz) := HA.out.next haw (fun x hx => .inr (by simp at hx; omega))
    replace HV := Lib.hid (HV.out.away haw (fun k hk => by have := HN.out k hk; simp; omega))
    clear hb haw
    go_wp2_with fail
    refine bodyPost_ret (resultMt rfl _ _ _ _ _ _ rfl rfl HZ.out) rfl ⟨_, rfl, HV.out, fun k hk => by have := HN.out k hk; omega, HA.out⟩
  · obtain rfl : r = (⟨v, ty, co, 0, d⟩, 1) := by rw [HBG.out, if_pos ⟨h0, h1⟩]; rfl
    go_wp2_with (first | (refine wpList_loadM rfl _ rfl g6 rfl ⟨v, ty, co, 0, d⟩ (.slice va vn vc) (by exact HC.out) ?_) | (refine wpList_storeM rfl _ _ rfl g4 rfl ⟨v, ty, co, 0, d⟩ (.slice va vn vc) rfl zeroMg (.slice none 0 0) (by exact HB.out) rfl ?_; refine Hid.out ?_))
    refine Lib.hid ?_
    intro wz hb haw
    have HZ := Lib.hid hb
    replace HA : Hid (Away [] w wz) := HA.out.next haw (fun x hx => .inr (by simp at hx; omega))
    replace HV := Lib.hid (HV.out.away haw (fun k hk => by have := HN.out k hk; simp; omega))
    clear hb haw
    go_wp2_with fail
    refine bodyPost_ret (resultMt rfl _ _ _ _ _ _ rfl rfl HZ.out) rfl ⟨_, rfl, HV.out, fun k hk => by have := HN.out k hk; omega, HA.out⟩
theorem tooBig_c (a : Option Addr) (b : List Int) (cap : Nat) (mtu : Int) (w : World) (hr : Row w a b) (hcap : b.length ≤ cap) (hn : a = none → cap = 0) (hg : Glob w) :
    Calls Tryd.prog 32 #[.slice a b.length cap, .int .i64 mtu] w fun E w' => MParseOut w (bigP b mtu) E w' := by
  by_cases h0 : 0 ≤ mtu
  · by_cases h1 : mtu ≤ 65535
    · exact tooBig_in a b cap mtu w hr hcap hn hg h0 h1
    · exact tooBig_hi a b cap mtu w hr hcap hn hg h0 (by omega)
  · exact tooBig_lo a b cap mtu w hr hcap hn hg (by omega)
theorem errors_c (k : Nat) (a : Option Addr) (b : List Int) (cap : Nat) (mtu : Int) (w : World) (hk : k < 5) (hr : Row w a b) (hcap : b.length ≤ cap) (hn : a = none → cap = 0) (hg : Glob w) :
    Calls Tryd.prog 10 #[.int .i64 (k : Int), .slice a b.length cap, .int .i64 mtu] w fun E w' => MParseOut w (errsP b mtu k) E w' := by
  obtain rfl | rfl | rfl | rfl | rfl : k = 0 ∨ k = 1 ∨ k = 2 ∨ k = 3 ∨ k = 4 := by omega
  · rw [show errsP b mtu 0 = bigP b mtu from rfl]
    have K : Hid (∀ W, Away [] w W → Calls Tryd.prog 32 #[.slice a b.length cap, .int .i64 mtu] W fun E w' => MParseOut W (bigP b mtu) E w') := fun W h => tooBig_c a b cap mtu W (hr.on h) hcap hn (hg.on h)
    clear hr hg
    generalize bigP b mtu = r at *
    go_enter Tryd.func10, Tryd.ntmps10
    go_wp2_with (refine wpList_allocM rfl rfl ?_; refine Hid.out ?_)
    refine Lib.hid ?_
    intro g4 w1 hg4 hb haw
    have HA := Lib.hid haw; have HB := Lib.hid hb
    have hl4 := hb.lt
    clear hb haw
    go_wp2_with fail
    refine (K.out _ HA.out).mono ?_
    rintro E w2 ⟨v, rfl, hv, hnv, haw⟩
    have hs1 := HA.out.size
    replace HA := Lib.hid (HA.out.on haw); replace HB := Lib.hid (HB.out.on haw)
    have HV := Lib.hid hv; have HN := Lib.hid hnv
    clear hv hnv haw K
    obtain ⟨va, vn, vc, rfl⟩ := HV.out.shp
    obtain ⟨m, e⟩ := r
    go_wp2_with (refine wpList_storeM rfl _ _ rfl g4 rfl m (.slice va vn vc) rfl zeroMg (.slice none 0 0) (by exact HB.out) rfl ?_; refine Hid.out ?_)
    refine Lib.hid ?_
    intro wz hb haw
    have HZ := Lib.hid hb
    replace HA : Hid (Away [] w wz) := HA.out.next haw (fun x hx => .inr (by simp at hx; omega))
    replace HV := Lib.hid (HV.out.away haw (fun k hk => by have := HN.out k hk; simp; omega))
    clear hb haw
    go_wp2_with fail
    refine bodyPost_ret (resultMt rfl _ _ _ _ _ _ rfl rfl HZ.out) rfl ⟨_, rfl, HV.out, fun k hk => by have := HN.out k hk; omega, HA.out⟩
  · rw [show errsP b mtu 1 = aboutP b 1 from rfl]
    have K : Hid (∀ W, Away [] w W → Calls Tryd.prog 33 #[.slice a b.length cap] W fun E w' => MParseOut W (aboutP b 1) E w') := fun W h => noPort_c a b cap W (hr.on h) hcap hn (hg.on h)
    clear hr hg
    generalize aboutP b 1 = r at *
    go_enter Tryd.func10, Tryd.ntmps10
    go_wp2_with (refine wpList_allocM rfl rfl ?_; refine Hid.out ?_)
    refine Lib.hid ?_
    intro g4 w1 hg4 hb haw
    have HA := Lib.hid haw; have HB := Lib.hid hb
    have hl4 := hb.lt
    clear hb haw
    go_wp2_with fail
    refine (K.out _ HA.out).mono ?_
    rintro E w2 ⟨v, rfl, hv, hnv, haw⟩
    have hs1 := HA.out.size
    replace HA := Lib.hid (HA.out.on haw); replace HB := Lib.hid (HB.out.on haw)
    have HV := Lib.hid hv; have HN := Lib.hid hnv
    clear hv hnv haw K
    obtain ⟨va, vn, vc, rfl⟩ := HV.out.shp
    obtain ⟨m, e⟩ := r
    go_wp2_with (refine wpList_storeM rfl _ _ rfl g4 rfl m (.slice va vn vc) rfl zeroMg (.slice none 0 0) (by exact HB.out) rfl ?_; refine Hid.out ?_)
    refine Lib.hid ?_
    intro wz hb haw
    have HZ := Lib.hid hb
    replace HA : Hid (Away [] w wz) := HA.out.next haw (fun x hx => .inr (by simp at hx; omega))
    replace HV := Lib.hid (HV.out.away haw (fun k hk => by have := HN.out k hk; simp; omega))
    clear hb haw
    go_wp2_with fail
    refine bodyPost_ret (resultMt rfl _ _ _ _ _ _ rfl rfl HZ.out) rfl ⟨_, rfl, HV.out, fun k hk => by have := HN.out k hk; omega, HA.out⟩
  · rw [show errsP b mtu 2 = aboutP b 2 from rfl]
    have K : Hid (∀ W, Away [] w W → Calls Tryd.prog 34 #[.slice a b.length cap] W fun E w' => MParseOut W (aboutP b 2) E w') := fun W h => noRoute_c a b cap W (hr.on h) hcap hn (hg.on h)
    clear hr hg
    generalize aboutP b 2 = r at *
    go_enter Tryd.func10, Tryd.ntmps10
    go_wp2_with (refine wpList_allocM rfl rfl ?_; refine Hid.out ?_)
    refine Lib.hid ?_
    intro g4 w1 hg4 hb haw
    have HA := Lib.hid haw; have HB := Lib.hid hb
    have hl4 := hb.lt
    clear hb haw
    go_wp2_with fail
    refine (K.out _ HA.out).mono ?_
    rintro E w2 ⟨v, rfl, hv, hnv, haw⟩
    have hs1 := HA.out.size
    replace HA := Lib.hid (HA.out.on haw); replace HB := Lib.hid (HB.out.on haw)
    have HV := Lib.hid hv; have HN := Lib.hid hnv
    clear hv hnv haw K
    obtain ⟨va, vn, vc, rfl⟩ := HV.out.shp
    obtain ⟨m, e⟩ := r
    go_wp2_with (refine wpList_storeM rfl _ _ rfl g4 rfl m (.slice va vn vc) rfl zeroMg (.slice none 0 0) (by exact HB.out) rfl ?_; refine Hid.out ?_)
    refine Lib.hid ?_
    intro wz hb haw
    have HZ := Lib.hid hb
    replace HA : Hid (Away [] w wz) := HA.out.next haw (fun x hx => .inr (by simp at hx; omega))
    replace HV := Lib.hid (HV.out.away haw (fun k hk => by have := HN.out k hk; simp; omega))
    clear hb haw
    go_wp2_with fail
    refine bodyPost_ret (resultMt rfl _ _ _ _ _ _ rfl rfl HZ.out) rfl ⟨_, rfl, HV.out, fun k hk => by have := HN.out k hk; omega, HA.out⟩
  · rw [show errsP b mtu 3 = aboutP b 3 from rfl]
    have K : Hid (∀ W, Away [] w W → Calls Tryd.prog 35 #[.slice a b.length cap] W fun E w' => MParseOut W (aboutP b 3) E w') := fun W h => timeUp_c a b cap W (hr.on h) hcap hn (hg.on h)
    clear hr hg
    generalize aboutP b 3 = r at *
    go_enter Tryd.func10, Tryd.ntmps10
    go_wp2_with (refine wpList_allocM rfl rfl ?_; refine Hid.out ?_)
    refine Lib.hid ?_
    intro g4 w1 hg4 hb haw
    have HA := Lib.hid haw; have HB := Lib.hid hb
    have hl4 := hb.lt
    clear hb haw
    go_wp2_with fail
    refine (K.out _ HA.out).mono ?_
    rintro E w2 ⟨v, rfl, hv, hnv, haw⟩
    have hs1 := HA.out.size
    replace HA := Lib.hid (HA.out.on haw); replace HB := Lib.hid (HB.out.on haw)
    have HV := Lib.hid hv; have HN := Lib.hid hnv
    clear hv hnv haw K
    obtain ⟨va, vn, vc, rfl⟩ := HV.out.shp
    obtain ⟨m, e⟩ := r
    go_wp2_with (refine wpList_storeM rfl _ _ rfl g4 rfl m (.slice va vn vc) rfl zeroMg (.slice none 0 0) (by exact HB.out) rfl ?_; refine Hid.out ?_)
    refine Lib.hid ?_
    intro wz hb haw
    have HZ := Lib.hid hb
    replace HA : Hid (Away [] w wz) := HA.out.next haw (fun x hx => .inr (by simp at hx; omega))
    replace HV := Lib.hid (HV.out.away haw (fun k hk => by have := HN.out k hk; simp; omega))
    clear hb haw
    go_wp2_with fail
    refine bodyPost_ret (resultMt rfl _ _ _ _ _ _ rfl rfl HZ.out) rfl ⟨_, rfl, HV.out, fun k hk => by have := HN.out k hk; omega, HA.out⟩
  · rw [show errsP b mtu 4 = aboutP b 4 from rfl]
    have K : Hid (∀ W, Away [] w W → Calls Tryd.prog 36 #[.slice a b.length cap] W fun E w' => MParseOut W (aboutP b 4) E w') := fun W h => lateParts_c a b cap W (hr.on h) hcap hn (hg.on h)
    clear hr hg
    generalize aboutP b 4 = r at *
    go_enter Tryd.func10, Tryd.ntmps10
    go_wp2_with (refine wpList_allocM rfl rfl ?_; refine Hid.out ?_)
    refine Lib.hid ?_
    intro g4 w1 hg4 hb haw
    have HA := Lib.hid haw; have HB := Lib.hid hb
    have hl4 := hb.lt
    clear hb haw
    go_wp2_with fail
    refine (K.out _ HA.out).mono ?_
    rintro E w2 ⟨v, rfl, hv, hnv, haw⟩
    have hs1 := HA.out.size
    replace HA := Lib.hid (HA.out.on haw); replace HB := Lib.hid (HB.out.on haw)
    have HV := Lib.hid hv; have HN := Lib.hid hnv
    clear hv hnv haw K
    obtain ⟨va, vn, vc, rfl⟩ := HV.out.shp
    obtain ⟨m, e⟩ := r
    go_wp2_with (refine wpList_storeM rfl _ _ rfl g4 rfl m (.slice va vn vc) rfl zeroMg (.slice none 0 0) (by exact HB.out) rfl ?_; refine Hid.out ?_)
    refine Lib.hid ?_
    intro wz hb haw
    have HZ := Lib.hid hb
    replace HA : Hid (Away [] w wz) := HA.out.next haw (fun x hx => .inr (by simp at hx; omega))
    replace HV := Lib.hid (HV.out.away haw (fun k hk => by have := HN.out k hk; simp; omega))
    clear hb haw
    go_wp2_with fail
    refine bodyPost_ret (resultMt rfl _ _ _ _ _ _ rfl rfl HZ.out) rfl ⟨_, rfl, HV.out, fun k hk => by have := HN.out k hk; omega, HA.out⟩
#print axioms errors_c
end Go.Proofs.YtbgpjhekohabiabDoor

namespace Go.Proofs.YtbgpjhekohabiabDoor
open Go.ChangeShapes Go.WideShapes Go.ChangeAt Go.RowKit Num
set_option linter.unusedVariables false
set_option maxHeartbeats 4000000
set_option maxRecDepth 100000

theorem rget8_c (a : Option Addr) (l : List Int) (cap i : Nat) (w : World) (hr : Row w a l) (hi : i + 1 < l.length) :
    Calls Tryd.prog 81 #[.slice a l.length cap, .int .i64 (i : Int)] w fun E w' => E = .returned (.int .i64 (w16 l i)) ∧ Away [] w w' := by
  have hlen := hr.1
  obtain ⟨b, off, rfl, c0⟩ := hr.at i (by omega)
  obtain ⟨b', off', he, c1⟩ := hr.at (i + 1) hi
  simp only [Option.some.injEq, Addr.mk.injEq, and_true] at he
  obtain ⟨rfl, rfl⟩ := he
  have x0 := gt_bd hr.2.1 i; have x1 := gt_bd hr.2.1 (i + 1)
  have HW : Hid (w16 l i = 256 * gt l i + gt l (i + 1)) := rfl
  clear hr
  generalize w16 l i = R at *
  generalize gt l i = x at *
  generalize gt l (i + 1) = y at *
  have i0 : (i : Int) < (l.length : Int) := by omega
  have i1 : (i : Int) + 1 < (l.length : Int) := by omega
  have i2 : ((i : Int) + 1).toNat = i + 1 := by omega
  have i3 : (0 : Int) ≤ (i : Int) := by omega
  have i4 : (0 : Int) ≤ (i : Int) + 1 := by omega
  go_enter Tryd.func81, Tryd.ntmps81
  go_wp2_with fail
  go_quiet (fail)
  go_wp2_with fail
  go_ret
  exact ⟨by rw [HW.out]; rfl, (Away.refl [] w).drewN _⟩
theorem rown8_c (a : Option Addr) (l : List Int) (n cap : Nat) (w : World) (hn : l.length = n) (ha : a = none → cap = 0) (hr : Row w a l) :
    Calls Tryd.prog 42 #[.slice a n cap] w fun E w' => ∃ v, E = .returned v ∧ Owns w' v l ∧ New w.heap.size v ∧ Away [] w w' := by
  subst hn
  have hlen := hr.1
  rcases a with _ | ad
  · have h0 : l = [] := by rcases hr.2.2 with h | ⟨_, _, h, _⟩ <;> simp_all
    subst h0
    obtain rfl := ha rfl
    go_enter Tryd.func42, Tryd.ntmps42
    go_wp2_with (at_builtin; refine wpList_app_none rfl _ _ rfl _ [] rfl (Owns.nil _) rfl ?_)
    go_wp2_with fail
    go_ret
    exact ⟨_, rfl, Owns.nil _, New.nil _, Away.refl _ _⟩
  · have HR := Lib.hid hr
    clear hr
    go_enter Tryd.func42, Tryd.ntmps42
    go_wp2_with (at_builtin; refine wpList_app rfl _ _ rfl _ [] l rfl (Owns.nil _) ad l.length cap rfl rfl HR.out.src (by simpa using hlen) ?_)
    intro v' w2 hown2 hgr hblk
    have HO := Lib.hid hown2
    have HA : Hid (Away [] w w2) := (Away.refl [] w).grown hgr (by simp [Value.ownBlock])
    have HN : Hid (New w.heap.size v') := fun k hk => by
      rcases hblk k hk with h | h
      · simp [Value.ownBlock] at h
      · exact h
    clear hown2 hgr hblk
    go_wp2_with fail
    go_ret
    exact ⟨v', rfl, HO.out, HN.out, HA.out⟩
/-- The bytes of a right packet of version 6, as the document has it. -/
def SixP (b : List Int) : Prop := 40 ≤ b.length ∧ gt b 0 / 16 = 6 ∧ w16 b 4 = (b.length : Int) - 40 ∧ (gt b 6 = 44 → 48 ≤ b.length ∧ gt b 41 = 0 ∧ gt b 43 % 8 / 2 = 0 ∧ gt b 40 ≠ 44 ∧
  (b.length : Int) - 48 ≤ 65535 - w16 b 42 / 8 * 8 ∧ (gt b 43 % 2 = 1 → b.length ≠ 48 ∧ (b.length - 48) % 8 = 0) ∧ (0 < w16 b 42 / 8 * 8 → b.length ≠ 48))
theorem six_iff {b : List Int} (hb : Bytes b) : (S6.parse6 b).2 = 0 ↔ SixP b := by
  have e4 : S6.wd b 4 = w16 b 4 := rfl
  have e42 : S6.wd b 42 = w16 b 42 := rfl
  have w42 : w16 b 42 = 256 * gt b 42 + gt b 43 := rfl
  have b42 := gt_bd hb 42; have b43 := gt_bd hb 43; have b40 := gt_bd hb 40; have b6 := gt_bd hb 6; have b7 := gt_bd hb 7
  have q0 : S6.wd4 b 0 = 16777216 * gt b 0 + 65536 * gt b 1 + 256 * gt b 2 + gt b 3 := rfl
  have b0 := gt_bd hb 0; have b1 := gt_bd hb 1; have b2 := gt_bd hb 2; have b3 := gt_bd hb 3
  constructor
  · intro h
    obtain ⟨hm, hc, hr, -⟩ := S6.parse6_ok h
    obtain ⟨m1, m2, m3, m4⟩ := S6.meas_ok hm
    have hr := (S6.right_iff _).1 hr
    refine ⟨m1, m2, by rw [← e4]; exact m3, fun h44 => ?_⟩
    have m5 := m4 h44
    unfold S6.cleanP at hc
    rw [decide_eq_false (by simpa using h44)] at hc
    simp only [Bool.false_or, Bool.and_eq_true, decide_eq_true_eq] at hc
    rw [show S6.readP b = { S6.fixR b with proto := gt b 40, id := S6.wd4 b 44, more := decide (S6.wd b 42 % 2 = 1), frag := true, off := S6.wd b 42 / 8 * 8, d := b.drop 48 } from by unfold S6.readP; rw [if_pos h44]] at hr
    have h8 := hr.m8; have hn := hr.mn; have hre := hr.reach; have h40 := hr.r44
    simp only [List.length_drop, decide_eq_true_eq] at h8 hn hre h40
    rw [e42] at h8 hn hre hc
    exact ⟨m5, hc.1, by omega, h40, by omega, fun hmm => ⟨fun e => hn (.inl (by omega)) (by omega), h8 (by omega)⟩, fun ho => fun e => hn (.inr ho) (by omega)⟩
  · rintro ⟨m1, m2, m3, m4⟩
    have hm : S6.measP b = 0 := by
      unfold S6.measP
      rw [if_neg (by omega), if_neg (by omega), if_neg (by rw [e4]; omega), if_neg (fun hh => by have := (m4 hh.1).1; omega)]
    unfold S6.parse6
    rw [if_neg (by rw [hm]; simp), if_pos]
    rw [Bool.and_eq_true, S6.right_iff]
    have w4 : w16 b 4 = 256 * gt b 4 + gt b 5 := rfl
    have b4 := gt_bd hb 4; have b5 := gt_bd hb 5
    by_cases h44 : gt b 6 = 44
    · obtain ⟨k1, k2, k3, k4, k5, k6, k7⟩ := m4 h44
      refine ⟨?_, ?_⟩
      · unfold S6.cleanP
        rw [e42]
        simp only [Bool.or_eq_true, Bool.and_eq_true, decide_eq_true_eq]
        exact .inr ⟨k2, by omega⟩
      · rw [show S6.readP b = { S6.fixR b with proto := gt b 40, id := S6.wd4 b 44, more := decide (S6.wd b 42 % 2 = 1), frag := true, off := S6.wd b 42 / 8 * 8, d := b.drop 48 } from by unfold S6.readP; rw [if_pos h44]]
        refine ⟨rfl, rfl, rfl, ?_, ?_, ?_, ?_, b7.1, b7.2, b40.1, b40.2, k4, rfl, rfl, ?_, ?_, ?_, ?_, ?_, ?_, ?_, ?_⟩
        · show 0 ≤ S6.wd4 b 0 % 1048576; omega
        · show S6.wd4 b 0 % 1048576 < 1048576; omega
        · show 0 ≤ S6.wd4 b 0 / 1048576 % 256; omega
        · show S6.wd4 b 0 / 1048576 % 256 ≤ 255; omega
        · show 0 ≤ S6.wd b 42 / 8 * 8; omega
        · show S6.wd b 42 / 8 * 8 ≤ 65528; omega
        · show S6.wd b 42 / 8 * 8 % 8 = 0; omega
        · show decide (S6.wd b 42 % 2 = 1) = true → (b.drop 48).length % 8 = 0
          rw [decide_eq_true_eq, List.length_drop]; intro hh; exact (k6 (by omega)).2
        · show (decide (S6.wd b 42 % 2 = 1) = true ∨ 0 < S6.wd b 42 / 8 * 8) → (b.drop 48).length ≠ 0
          rw [decide_eq_true_eq, List.length_drop]
          rintro (hh | hh)
          · have := (k6 (by omega)).1; omega
          · have := k7 (by omega); omega
        · show S6.wd b 42 / 8 * 8 + ((b.drop 48).length : Int) ≤ 65535
          rw [List.length_drop]; omega
        · intro hh; simp at hh
        · show 48 - 40 + (b.drop 48).length ≤ 65535
          rw [List.length_drop]; omega
    · refine ⟨?_, ?_⟩
      · unfold S6.cleanP; simp [h44]
      · rw [show S6.readP b = { S6.fixR b with d := b.drop 40 } from by unfold S6.readP; rw [if_neg h44]]
        refine ⟨rfl, rfl, rfl, ?_, ?_, ?_, ?_, b7.1, b7.2, b6.1, b6.2, h44, rfl, rfl, ?_, ?_, ?_, ?_, ?_, ?_, ?_, ?_⟩
        · show 0 ≤ S6.wd4 b 0 % 1048576; omega
        · show S6.wd4 b 0 % 1048576 < 1048576; omega
        · show 0 ≤ S6.wd4 b 0 / 1048576 % 256; omega
        · show S6.wd4 b 0 / 1048576 % 256 ≤ 255; omega
        · show (0 : Int) ≤ 0; omega
        · show (0 : Int) ≤ 65528; omega
        · rfl
        · intro hh; simp [S6.fixR] at hh
        · rintro (hh | hh)
          · simp [S6.fixR] at hh
          · simp [S6.fixR] at hh
        · show (0 : Int) + ((b.drop 40).length : Int) ≤ 65535
          rw [List.length_drop]; omega
        · intro _; exact ⟨rfl, rfl, rfl⟩
        · show 40 - 40 + (b.drop 40).length ≤ 65535
          rw [List.length_drop]; omega
theorem six_a (a : Option Addr) (b : List Int) (cap : Nat) (w : World) (hr : Row w a b) (h : b.length < 40) :
    Calls Tryd.prog 43 #[.slice a b.length cap] w fun E w' => E = .returned (.bool false) ∧ Away [] w w' := by
  have hlen := hr.1
  have h' : (b.length : Int) < 40 := by omega
  have HA : Hid (Away [] w w) := Away.refl _ _
  clear hr
  go_enter Tryd.func43, Tryd.ntmps43
  go_wp2_with fail
  go_ret
  exact ⟨rfl, HA.out⟩
theorem six_b (a : Option Addr) (b : List Int) (cap : Nat) (w : World) (hr : Row w a b) (h40 : 40 ≤ b.length) (h : gt b 0 / 16 ≠ 6) :
    Calls Tryd.prog 43 #[.slice a b.length cap] w fun E w' => E = .returned (.bool false) ∧ Away [] w w' := by
  have hlen := hr.1
  have hl' : ¬ ((b.length : Int) < 40) := by omega
  have i0 : (0 : Int) < (b.length : Int) := by omega
  have K4 : Hid (∀ W, Away [] w W → Calls Tryd.prog 81 #[.slice a b.length cap, .int .i64 4] W fun E w' => E = .returned (.int .i64 (w16 b 4)) ∧ Away [] W w') := fun W h => rget8_c a b cap 4 W (hr.on h) (by omega)
  have v4 : 0 ≤ w16 b 4 ∧ w16 b 4 ≤ 65535 := by have h1 := gt_bd hr.2.1 4; have h2 := gt_bd hr.2.1 5; have e : w16 b 4 = 256 * gt b 4 + gt b 5 := rfl; omega
  obtain ⟨bk, off, hat, c0⟩ := hr.at 0 (by omega)
  subst hat
  simp only [Nat.add_zero] at c0
  have x0 := gt_bd hr.2.1 0
  have h' : (gt b 0 / 16 != 6) = true := by simpa using h
  generalize gt b 0 = y0 at *
  have HA : Hid (Away [] w w) := Away.refl _ _
  clear hr
  go_enter Tryd.func43, Tryd.ntmps43
  go_wp2_with fail
  go_ret
  exact ⟨rfl, HA.out⟩
theorem six_cc (a : Option Addr) (b : List Int) (cap : Nat) (w : World) (hr : Row w a b) (h40 : 40 ≤ b.length) (h0 : gt b 0 / 16 = 6) (h : w16 b 4 ≠ (b.length : Int) - 40) :
    Calls Tryd.prog 43 #[.slice a b.length cap] w fun E w' => E = .returned (.bool false) ∧ Away [] w w' := by
  have hlen := hr.1
  have hl' : ¬ ((b.length : Int) < 40) := by omega
  have i0 : (0 : Int) < (b.length : Int) := by omega
  have K4 : Hid (∀ W, Away [] w W → Calls Tryd.prog 81 #[.slice a b.length cap, .int .i64 4] W fun E w' => E = .returned (.int .i64 (w16 b 4)) ∧ Away [] W w') := fun W h => rget8_c a b cap 4 W (hr.on h) (by omega)
  have v4 : 0 ≤ w16 b 4 ∧ w16 b 4 ≤ 65535 := by have h1 := gt_bd hr.2.1 4; have h2 := gt_bd hr.2.1 5; have e : w16 b 4 = 256 * gt b 4 + gt b 5 := rfl; omega
  obtain ⟨bk, off, hat, c0⟩ := hr.at 0 (by omega)
  subst hat
  simp only [Nat.add_zero] at c0
  have x0 := gt_bd hr.2.1 0
  have h0' : (gt b 0 / 16 != 6) = false := by simpa using h0
  have h' : (w16 b 4 != (b.length : Int) - 40) = true := by simpa using h
  generalize gt b 0 = y0 at *
  generalize w16 b 4 = z4 at *
  have HA : Hid (Away [] w w) := Away.refl _ _
  clear hr
  go_enter Tryd.func43, Tryd.ntmps43
  go_wp2_with fail
  refine (K4.out _ HA.out).mono ?_
  rintro E w1 ⟨rfl, haw⟩
  replace HA := Lib.hid (HA.out.on haw)
  go_wp2_with fail
  go_ret
  exact ⟨rfl, HA.out⟩
theorem six_d (a : Option Addr) (b : List Int) (cap : Nat) (w : World) (hr : Row w a b) (h40 : 40 ≤ b.length) (h0 : gt b 0 / 16 = 6) (h4 : w16 b 4 = (b.length : Int) - 40) (h : gt b 6 ≠ 44) :
    Calls Tryd.prog 43 #[.slice a b.length cap] w fun E w' => E = .returned (.bool true) ∧ Away [] w w' := by
  have hlen := hr.1
  have hl' : ¬ ((b.length : Int) < 40) := by omega
  have i0 : (0 : Int) < (b.length : Int) := by omega
  have K4 : Hid (∀ W, Away [] w W → Calls Tryd.prog 81 #[.slice a b.length cap, .int .i64 4] W fun E w' => E = .returned (.int .i64 (w16 b 4)) ∧ Away [] W w') := fun W h => rget8_c a b cap 4 W (hr.on h) (by omega)
  have v4 : 0 ≤ w16 b 4 ∧ w16 b 4 ≤ 65535 := by have h1 := gt_bd hr.2.1 4; have h2 := gt_bd hr.2.1 5; have e : w16 b 4 = 256 * gt b 4 + gt b 5 := rfl; omega
  obtain ⟨bk, off, hat, c0⟩ := hr.at 0 (by omega)
  subst hat
  simp only [Nat.add_zero] at c0
  have x0 := gt_bd hr.2.1 0
  obtain ⟨bk', off', he, c6⟩ := hr.at 6 (by omega)
  simp only [Option.some.injEq, Addr.mk.injEq, and_true] at he
  obtain ⟨rfl, rfl⟩ := he
  have x6 := gt_bd hr.2.1 6
  have h0' : (gt b 0 / 16 != 6) = false := by simpa using h0
  have h4' : (w16 b 4 != (b.length : Int) - 40) = false := by simpa using h4
  have i6 : (6 : Int) < (b.length : Int) := by omega
  have h' : (gt b 6 != 44) = true := by simpa using h
  clear h4
  generalize gt b 0 = y0 at *
  generalize gt b 6 = y6 at *
  have HC6 : Hid (∀ W, Away [] w W → W.cell? ⟨bk, off + 6, none⟩ = some (.int .u8 y6)) := fun W h => h.cell (by simp) c6
  generalize w16 b 4 = z4 at *
  have HA : Hid (Away [] w w) := Away.refl _ _
  clear hr
  go_enter Tryd.func43, Tryd.ntmps43
  go_wp2_with fail
  refine (K4.out _ HA.out).mono ?_
  rintro E w1 ⟨rfl, haw⟩
  replace HA := Lib.hid (HA.out.on haw)
  have d6 := HC6.out _ HA.out
  clear haw
  go_wp2_with fail
  go_ret
  exact ⟨rfl, HA.out⟩
theorem six_e (a : Option Addr) (b : List Int) (cap : Nat) (w : World) (hr : Row w a b) (h40 : 40 ≤ b.length) (h0 : gt b 0 / 16 = 6) (h4 : w16 b 4 = (b.length : Int) - 40) (h6 : gt b 6 = 44) (h : b.length < 48) :
    Calls Tryd.prog 43 #[.slice a b.length cap] w fun E w' => E = .returned (.bool false) ∧ Away [] w w' := by
  have hlen := hr.1
  have hl' : ¬ ((b.length : Int) < 40) := by omega
  have i0 : (0 : Int) < (b.length : Int) := by omega
  have K4 : Hid (∀ W, Away [] w W → Calls Tryd.prog 81 #[.slice a b.length cap, .int .i64 4] W fun E w' => E = .returned (.int .i64 (w16 b 4)) ∧ Away [] W w') := fun W h => rget8_c a b cap 4 W (hr.on h) (by omega)
  have v4 : 0 ≤ w16 b 4 ∧ w16 b 4 ≤ 65535 := by have h1 := gt_bd hr.2.1 4; have h2 := gt_bd hr.2.1 5; have e : w16 b 4 = 256 * gt b 4 + gt b 5 := rfl; omega
  obtain ⟨bk, off, hat, c0⟩ := hr.at 0 (by omega)
  subst hat
  simp only [Nat.add_zero] at c0
  have x0 := gt_bd hr.2.1 0
  obtain ⟨bk', off', he, c6⟩ := hr.at 6 (by omega)
  simp only [Option.some.injEq, Addr.mk.injEq, and_true] at he
  obtain ⟨rfl, rfl⟩ := he
  have x6 := gt_bd hr.2.1 6
  have h0' : (gt b 0 / 16 != 6) = false := by simpa using h0
  have h4' : (w16 b 4 != (b.length : Int) - 40) = false := by simpa using h4
  have i6 : (6 : Int) < (b.length : Int) := by omega
  have h6' : (gt b 6 != 44) = false := by simpa using h6
  have h' : (b.length : Int) < 48 := by omega
  clear h4
  generalize gt b 0 = y0 at *
  generalize gt b 6 = y6 at *
  have HC6 : Hid (∀ W, Away [] w W → W.cell? ⟨bk, off + 6, none⟩ = some (.int .u8 y6)) := fun W h => h.cell (by simp) c6
  generalize w16 b 4 = z4 at *
  have HA : Hid (Away [] w w) := Away.refl _ _
  clear hr
  go_enter Tryd.func43, Tryd.ntmps43
  go_wp2_with fail
  refine (K4.out _ HA.out).mono ?_
  rintro E w1 ⟨rfl, haw⟩
  replace HA := Lib.hid (HA.out.on haw)
  have d6 := HC6.out _ HA.out
  clear haw
  go_wp2_with fail
  go_ret
  exact ⟨rfl, HA.out⟩
theorem six_f (a : Option Addr) (b : List Int) (cap : Nat) (w : World) (hr : Row w a b) (h40 : 40 ≤ b.length) (h0 : gt b 0 / 16 = 6) (h4 : w16 b 4 = (b.length : Int) - 40) (h6 : gt b 6 = 44) (h48 : 48 ≤ b.length) (h : gt b 41 ≠ 0) :
    Calls Tryd.prog 43 #[.slice a b.length cap] w fun E w' => E = .returned (.bool false) ∧ Away [] w w' := by
  have hlen := hr.1
  have hl' : ¬ ((b.length : Int) < 40) := by omega
  have i0 : (0 : Int) < (b.length : Int) := by omega
  have K4 : Hid (∀ W, Away [] w W → Calls Tryd.prog 81 #[.slice a b.length cap, .int .i64 4] W fun E w' => E = .returned (.int .i64 (w16 b 4)) ∧ Away [] W w') := fun W h => rget8_c a b cap 4 W (hr.on h) (by omega)
  have v4 : 0 ≤ w16 b 4 ∧ w16 b 4 ≤ 65535 := by have h1 := gt_bd hr.2.1 4; have h2 := gt_bd hr.2.1 5; have e : w16 b 4 = 256 * gt b 4 + gt b 5 := rfl; omega
  obtain ⟨bk, off, hat, c0⟩ := hr.at 0 (by omega)
  subst hat
  simp only [Nat.add_zero] at c0
  have x0 := gt_bd hr.2.1 0
  obtain ⟨bk', off', he, c6⟩ := hr.at 6 (by omega)
  simp only [Option.some.injEq, Addr.mk.injEq, and_true] at he
  obtain ⟨rfl, rfl⟩ := he
  have x6 := gt_bd hr.2.1 6
  have h0' : (gt b 0 / 16 != 6) = false := by simpa using h0
  have h4' : (w16 b 4 != (b.length : Int) - 40) = false := by simpa using h4
  have i6 : (6 : Int) < (b.length : Int) := by omega
  have h6' : (gt b 6 != 44) = false := by simpa using h6
  have hl8 : ¬ ((b.length : Int) < 48) := by omega
  obtain ⟨bk', off', he, c41⟩ := hr.at 41 (by omega)
  simp only [Option.some.injEq, Addr.mk.injEq, and_true] at he
  obtain ⟨rfl, rfl⟩ := he
  have x41 := gt_bd hr.2.1 41
  obtain ⟨bk', off', he, c43⟩ := hr.at 43 (by omega)
  simp only [Option.some.injEq, Addr.mk.injEq, and_true] at he
  obtain ⟨rfl, rfl⟩ := he
  have x43 := gt_bd hr.2.1 43
  obtain ⟨bk', off', he, c40⟩ := hr.at 40 (by omega)
  simp only [Option.some.injEq, Addr.mk.injEq, and_true] at he
  obtain ⟨rfl, rfl⟩ := he
  have x40 := gt_bd hr.2.1 40
  have i41 : (41 : Int) < (b.length : Int) := by omega
  have i43 : (43 : Int) < (b.length : Int) := by omega
  have i40 : (40 : Int) < (b.length : Int) := by omega
  have h' : (gt b 41 != 0) = true := by simpa using h
  clear h4
  generalize gt b 0 = y0 at *
  generalize gt b 6 = y6 at *
  generalize gt b 41 = y41 at *
  generalize gt b 43 = y43 at *
  generalize gt b 40 = y40 at *
  have HC6 : Hid (∀ W, Away [] w W → W.cell? ⟨bk, off + 6, none⟩ = some (.int .u8 y6)) := fun W h => h.cell (by simp) c6
  have HC41 : Hid (∀ W, Away [] w W → W.cell? ⟨bk, off + 41, none⟩ = some (.int .u8 y41)) := fun W h => h.cell (by simp) c41
  have HC43 : Hid (∀ W, Away [] w W → W.cell? ⟨bk, off + 43, none⟩ = some (.int .u8 y43)) := fun W h => h.cell (by simp) c43
  have HC40 : Hid (∀ W, Away [] w W → W.cell? ⟨bk, off + 40, none⟩ = some (.int .u8 y40)) := fun W h => h.cell (by simp) c40
  generalize w16 b 4 = z4 at *
  have HA : Hid (Away [] w w) := Away.refl _ _
  clear hr
  go_enter Tryd.func43, Tryd.ntmps43
  go_wp2_with fail
  refine (K4.out _ HA.out).mono ?_
  rintro E w1 ⟨rfl, haw⟩
  replace HA := Lib.hid (HA.out.on haw)
  have d6 := HC6.out _ HA.out
  have d41 := HC41.out _ HA.out
  have d43 := HC43.out _ HA.out
  have d40 := HC40.out _ HA.out
  clear haw
  go_wp2_with fail
  go_ret
  exact ⟨rfl, HA.out⟩
theorem six_g (a : Option Addr) (b : List Int) (cap : Nat) (w : World) (hr : Row w a b) (h40 : 40 ≤ b.length) (h0 : gt b 0 / 16 = 6) (h4 : w16 b 4 = (b.length : Int) - 40) (h6 : gt b 6 = 44) (h48 : 48 ≤ b.length) (k41 : gt b 41 = 0) (h : gt b 43 % 8 / 2 ≠ 0) :
    Calls Tryd.prog 43 #[.slice a b.length cap] w fun E w' => E = .returned (.bool false) ∧ Away [] w w' := by
  have hlen := hr.1
  have hl' : ¬ ((b.length : Int) < 40) := by omega
  have i0 : (0 : Int) < (b.length : Int) := by omega
  have K4 : Hid (∀ W, Away [] w W → Calls Tryd.prog 81 #[.slice a b.length cap, .int .i64 4] W fun E w' => E = .returned (.int .i64 (w16 b 4)) ∧ Away [] W w') := fun W h => rget8_c a b cap 4 W (hr.on h) (by omega)
  have v4 : 0 ≤ w16 b 4 ∧ w16 b 4 ≤ 65535 := by have h1 := gt_bd hr.2.1 4; have h2 := gt_bd hr.2.1 5; have e : w16 b 4 = 256 * gt b 4 + gt b 5 := rfl; omega
  obtain ⟨bk, off, hat, c0⟩ := hr.at 0 (by omega)
  subst hat
  simp only [Nat.add_zero] at c0
  have x0 := gt_bd hr.2.1 0
  obtain ⟨bk', off', he, c6⟩ := hr.at 6 (by omega)
  simp only [Option.some.injEq, Addr.mk.injEq, and_true] at he
  obtain ⟨rfl, rfl⟩ := he
  have x6 := gt_bd hr.2.1 6
  have h0' : (gt b 0 / 16 != 6) = false := by simpa using h0
  have h4' : (w16 b 4 != (b.length : Int) - 40) = false := by simpa using h4
  have i6 : (6 : Int) < (b.length : Int) := by omega
  have h6' : (gt b 6 != 44) = false := by simpa using h6
  have hl8 : ¬ ((b.length : Int) < 48) := by omega
  obtain ⟨bk', off', he, c41⟩ := hr.at 41 (by omega)
  simp only [Option.some.injEq, Addr.mk.injEq, and_true] at he
  obtain ⟨rfl, rfl⟩ := he
  have x41 := gt_bd hr.2.1 41
  obtain ⟨bk', off', he, c43⟩ := hr.at 43 (by omega)
  simp only [Option.some.injEq, Addr.mk.injEq, and_true] at he
  obtain ⟨rfl, rfl⟩ := he
  have x43 := gt_bd hr.2.1 43
  obtain ⟨bk', off', he, c40⟩ := hr.at 40 (by omega)
  simp only [Option.some.injEq, Addr.mk.injEq, and_true] at he
  obtain ⟨rfl, rfl⟩ := he
  have x40 := gt_bd hr.2.1 40
  have i41 : (41 : Int) < (b.length : Int) := by omega
  have i43 : (43 : Int) < (b.length : Int) := by omega
  have i40 : (40 : Int) < (b.length : Int) := by omega
  have k41' : (gt b 41 != 0) = false := by simpa using k41
  have h' : (gt b 43 % 8 / 2 != 0) = true := by simpa using h
  clear h4
  generalize gt b 0 = y0 at *
  generalize gt b 6 = y6 at *
  generalize gt b 41 = y41 at *
  generalize gt b 43 = y43 at *
  generalize gt b 40 = y40 at *
  have HC6 : Hid (∀ W, Away [] w W → W.cell? ⟨bk, off + 6, none⟩ = some (.int .u8 y6)) := fun W h => h.cell (by simp) c6
  have HC41 : Hid (∀ W, Away [] w W → W.cell? ⟨bk, off + 41, none⟩ = some (.int .u8 y41)) := fun W h => h.cell (by simp) c41
  have HC43 : Hid (∀ W, Away [] w W → W.cell? ⟨bk, off + 43, none⟩ = some (.int .u8 y43)) := fun W h => h.cell (by simp) c43
  have HC40 : Hid (∀ W, Away [] w W → W.cell? ⟨bk, off + 40, none⟩ = some (.int .u8 y40)) := fun W h => h.cell (by simp) c40
  generalize w16 b 4 = z4 at *
  have HA : Hid (Away [] w w) := Away.refl _ _
  clear hr
  go_enter Tryd.func43, Tryd.ntmps43
  go_wp2_with fail
  refine (K4.out _ HA.out).mono ?_
  rintro E w1 ⟨rfl, haw⟩
  replace HA := Lib.hid (HA.out.on haw)
  have d6 := HC6.out _ HA.out
  have d41 := HC41.out _ HA.out
  have d43 := HC43.out _ HA.out
  have d40 := HC40.out _ HA.out
  clear haw
  go_wp2_with fail
  go_ret
  exact ⟨rfl, HA.out⟩
theorem six_h (a : Option Addr) (b : List Int) (cap : Nat) (w : World) (hr : Row w a b) (h40 : 40 ≤ b.length) (h0 : gt b 0 / 16 = 6) (h4 : w16 b 4 = (b.length : Int) - 40) (h6 : gt b 6 = 44) (h48 : 48 ≤ b.length) (k41 : gt b 41 = 0) (k43 : gt b 43 % 8 / 2 = 0) (h : gt b 40 = 44) :
    Calls Tryd.prog 43 #[.slice a b.length cap] w fun E w' => E = .returned (.bool false) ∧ Away [] w w' := by
  have hlen := hr.1
  have hl' : ¬ ((b.length : Int) < 40) := by omega
  have i0 : (0 : Int) < (b.length : Int) := by omega
  have K4 : Hid (∀ W, Away [] w W → Calls Tryd.prog 81 #[.slice a b.length cap, .int .i64 4] W fun E w' => E = .returned (.int .i64 (w16 b 4)) ∧ Away [] W w') := fun W h => rget8_c a b cap 4 W (hr.on h) (by omega)
  have v4 : 0 ≤ w16 b 4 ∧ w16 b 4 ≤ 65535 := by have h1 := gt_bd hr.2.1 4; have h2 := gt_bd hr.2.1 5; have e : w16 b 4 = 256 * gt b 4 + gt b 5 := rfl; omega
  obtain ⟨bk, off, hat, c0⟩ := hr.at 0 (by omega)
  subst hat
  simp only [Nat.add_zero] at c0
  have x0 := gt_bd hr.2.1 0
  obtain ⟨bk', off', he, c6⟩ := hr.at 6 (by omega)
  simp only [Option.some.injEq, Addr.mk.injEq, and_true] at he
  obtain ⟨rfl, rfl⟩ := he
  have x6 := gt_bd hr.2.1 6
  have h0' : (gt b 0 / 16 != 6) = false := by simpa using h0
  have h4' : (w16 b 4 != (b.length : Int) - 40) = false := by simpa using h4
  have i6 : (6 : Int) < (b.length : Int) := by omega
  have h6' : (gt b 6 != 44) = false := by simpa using h6
  have hl8 : ¬ ((b.length : Int) < 48) := by omega
  obtain ⟨bk', off', he, c41⟩ := hr.at 41 (by omega)
  simp only [Option.some.injEq, Addr.mk.injEq, and_true] at he
  obtain ⟨rfl, rfl⟩ := he
  have x41 := gt_bd hr.2.1 41
  obtain ⟨bk', off', he, c43⟩ := hr.at 43 (by omega)
  simp only [Option.some.injEq, Addr.mk.injEq, and_true] at he
  obtain ⟨rfl, rfl⟩ := he
  have x43 := gt_bd hr.2.1 43
  obtain ⟨bk', off', he, c40⟩ := hr.at 40 (by omega)
  simp only [Option.some.injEq, Addr.mk.injEq, and_true] at he
  obtain ⟨rfl, rfl⟩ := he
  have x40 := gt_bd hr.2.1 40
  have i41 : (41 : Int) < (b.length : Int) := by omega
  have i43 : (43 : Int) < (b.length : Int) := by omega
  have i40 : (40 : Int) < (b.length : Int) := by omega
  have k41' : (gt b 41 != 0) = false := by simpa using k41
  have k43' : (gt b 43 % 8 / 2 != 0) = false := by simpa using k43
  have h' : (gt b 40 == 44) = true := by simpa using h
  clear h4
  generalize gt b 0 = y0 at *
  generalize gt b 6 = y6 at *
  generalize gt b 41 = y41 at *
  generalize gt b 43 = y43 at *
  generalize gt b 40 = y40 at *
  have HC6 : Hid (∀ W, Away [] w W → W.cell? ⟨bk, off + 6, none⟩ = some (.int .u8 y6)) := fun W h => h.cell (by simp) c6
  have HC41 : Hid (∀ W, Away [] w W → W.cell? ⟨bk, off + 41, none⟩ = some (.int .u8 y41)) := fun W h => h.cell (by simp) c41
  have HC43 : Hid (∀ W, Away [] w W → W.cell? ⟨bk, off + 43, none⟩ = some (.int .u8 y43)) := fun W h => h.cell (by simp) c43
  have HC40 : Hid (∀ W, Away [] w W → W.cell? ⟨bk, off + 40, none⟩ = some (.int .u8 y40)) := fun W h => h.cell (by simp) c40
  generalize w16 b 4 = z4 at *
  have HA : Hid (Away [] w w) := Away.refl _ _
  clear hr
  go_enter Tryd.func43, Tryd.ntmps43
  go_wp2_with fail
  refine (K4.out _ HA.out).mono ?_
  rintro E w1 ⟨rfl, haw⟩
  replace HA := Lib.hid (HA.out.on haw)
  have d6 := HC6.out _ HA.out
  have d41 := HC41.out _ HA.out
  have d43 := HC43.out _ HA.out
  have d40 := HC40.out _ HA.out
  clear haw
  go_wp2_with fail
  go_ret
  exact ⟨rfl, HA.out⟩
theorem six_i (a : Option Addr) (b : List Int) (cap : Nat) (w : World) (hr : Row w a b) (h40 : 40 ≤ b.length) (h0 : gt b 0 / 16 = 6) (h4 : w16 b 4 = (b.length : Int) - 40) (h6 : gt b 6 = 44) (h48 : 48 ≤ b.length) (k41 : gt b 41 = 0) (k43 : gt b 43 % 8 / 2 = 0) (k40 : gt b 40 ≠ 44) (h : ¬ (((b.length : Int) - 48) ≤ 65535 - w16 b 42 / 8 * 8)) :
    Calls Tryd.prog 43 #[.slice a b.length cap] w fun E w' => E = .returned (.bool false) ∧ Away [] w w' := by
  have hlen := hr.1
  have hl' : ¬ ((b.length : Int) < 40) := by omega
  have i0 : (0 : Int) < (b.length : Int) := by omega
  have K4 : Hid (∀ W, Away [] w W → Calls Tryd.prog 81 #[.slice a b.length cap, .int .i64 4] W fun E w' => E = .returned (.int .i64 (w16 b 4)) ∧ Away [] W w') := fun W h => rget8_c a b cap 4 W (hr.on h) (by omega)
  have v4 : 0 ≤ w16 b 4 ∧ w16 b 4 ≤ 65535 := by have h1 := gt_bd hr.2.1 4; have h2 := gt_bd hr.2.1 5; have e : w16 b 4 = 256 * gt b 4 + gt b 5 := rfl; omega
  obtain ⟨bk, off, hat, c0⟩ := hr.at 0 (by omega)
  subst hat
  simp only [Nat.add_zero] at c0
  have x0 := gt_bd hr.2.1 0
  obtain ⟨bk', off', he, c6⟩ := hr.at 6 (by omega)
  simp only [Option.some.injEq, Addr.mk.injEq, and_true] at he
  obtain ⟨rfl, rfl⟩ := he
  have x6 := gt_bd hr.2.1 6
  have h0' : (gt b 0 / 16 != 6) = false := by simpa using h0
  have h4' : (w16 b 4 != (b.length : Int) - 40) = false := by simpa using h4
  have i6 : (6 : Int) < (b.length : Int) := by omega
  have h6' : (gt b 6 != 44) = false := by simpa using h6
  have hl8 : ¬ ((b.length : Int) < 48) := by omega
  obtain ⟨bk', off', he, c41⟩ := hr.at 41 (by omega)
  simp only [Option.some.injEq, Addr.mk.injEq, and_true] at he
  obtain ⟨rfl, rfl⟩ := he
  have x41 := gt_bd hr.2.1 41
  obtain ⟨bk', off', he, c43⟩ := hr.at 43 (by omega)
  simp only [Option.some.injEq, Addr.mk.injEq, and_true] at he
  obtain ⟨rfl, rfl⟩ := he
  have x43 := gt_bd hr.2.1 43
  obtain ⟨bk', off', he, c40⟩ := hr.at 40 (by omega)
  simp only [Option.some.injEq, Addr.mk.injEq, and_true] at he
  obtain ⟨rfl, rfl⟩ := he
  have x40 := gt_bd hr.2.1 40
  have i41 : (41 : Int) < (b.length : Int) := by omega
  have i43 : (43 : Int) < (b.length : Int) := by omega
  have i40 : (40 : Int) < (b.length : Int) := by omega
  have k41' : (gt b 41 != 0) = false := by simpa using k41
  have k43' : (gt b 43 % 8 / 2 != 0) = false := by simpa using k43
  have k40' : (gt b 40 == 44) = false := by simpa using k40
  have K42 : Hid (∀ W, Away [] w W → Calls Tryd.prog 81 #[.slice (some ⟨bk, off, none⟩) b.length cap, .int .i64 42] W fun E w' => E = .returned (.int .i64 (w16 b 42)) ∧ Away [] W w') := fun W h => rget8_c (some ⟨bk, off, none⟩) b cap 42 W (hr.on h) (by omega)
  have v42 : 0 ≤ w16 b 42 ∧ w16 b 42 ≤ 65535 := by have h1 := gt_bd hr.2.1 42; have h2 := gt_bd hr.2.1 43; have e : w16 b 42 = 256 * gt b 42 + gt b 43 := rfl; omega
  have n1 : ¬ (((b.length : Int) - 48) ≤ 65535 - w16 b 42 / 8 * 8) := by omega
  clear h4
  generalize gt b 0 = y0 at *
  generalize gt b 6 = y6 at *
  generalize gt b 41 = y41 at *
  generalize gt b 43 = y43 at *
  generalize gt b 40 = y40 at *
  have HC6 : Hid (∀ W, Away [] w W → W.cell? ⟨bk, off + 6, none⟩ = some (.int .u8 y6)) := fun W h => h.cell (by simp) c6
  have HC41 : Hid (∀ W, Away [] w W → W.cell? ⟨bk, off + 41, none⟩ = some (.int .u8 y41)) := fun W h => h.cell (by simp) c41
  have HC43 : Hid (∀ W, Away [] w W → W.cell? ⟨bk, off + 43, none⟩ = some (.int .u8 y43)) := fun W h => h.cell (by simp) c43
  have HC40 : Hid (∀ W, Away [] w W → W.cell? ⟨bk, off + 40, none⟩ = some (.int .u8 y40)) := fun W h => h.cell (by simp) c40
  generalize w16 b 4 = z4 at *
  generalize w16 b 42 = z42 at *
  have HA : Hid (Away [] w w) := Away.refl _ _
  clear hr
  go_enter Tryd.func43, Tryd.ntmps43
  go_wp2_with fail
  refine (K4.out _ HA.out).mono ?_
  rintro E w1 ⟨rfl, haw⟩
  replace HA := Lib.hid (HA.out.on haw)
  have d6 := HC6.out _ HA.out
  have d41 := HC41.out _ HA.out
  have d43 := HC43.out _ HA.out
  have d40 := HC40.out _ HA.out
  clear haw
  go_wp2_with fail
  refine (K42.out _ HA.out).mono ?_
  rintro E w2 ⟨rfl, haw⟩
  replace HA := Lib.hid (HA.out.on haw)
  clear d6 d41 d40 d43
  have d43 := HC43.out _ HA.out
  clear haw
  go_wp2_with fail
  go_ret
  exact ⟨rfl, HA.out⟩
theorem six_j (a : Option Addr) (b : List Int) (cap : Nat) (w : World) (hr : Row w a b) (h40 : 40 ≤ b.length) (h0 : gt b 0 / 16 = 6) (h4 : w16 b 4 = (b.length : Int) - 40) (h6 : gt b 6 = 44) (h48 : 48 ≤ b.length) (k41 : gt b 41 = 0) (k43 : gt b 43 % 8 / 2 = 0) (k40 : gt b 40 ≠ 44) (hn : ((b.length : Int) - 48) ≤ 65535 - w16 b 42 / 8 * 8) (hm : gt b 43 % 2 = 1) (h : b.length = 48) :
    Calls Tryd.prog 43 #[.slice a b.length cap] w fun E w' => E = .returned (.bool false) ∧ Away [] w w' := by
  have hlen := hr.1
  have hl' : ¬ ((b.length : Int) < 40) := by omega
  have i0 : (0 : Int) < (b.length : Int) := by omega
  have K4 : Hid (∀ W, Away [] w W → Calls Tryd.prog 81 #[.slice a b.length cap, .int .i64 4] W fun E w' => E = .returned (.int .i64 (w16 b 4)) ∧ Away [] W w') := fun W h => rget8_c a b cap 4 W (hr.on h) (by omega)
  have v4 : 0 ≤ w16 b 4 ∧ w16 b 4 ≤ 65535 := by have h1 := gt_bd hr.2.1 4; have h2 := gt_bd hr.2.1 5; have e : w16 b 4 = 256 * gt b 4 + gt b 5 := rfl; omega
  obtain ⟨bk, off, hat, c0⟩ := hr.at 0 (by omega)
  subst hat
  simp only [Nat.add_zero] at c0
  have x0 := gt_bd hr.2.1 0
  obtain ⟨bk', off', he, c6⟩ := hr.at 6 (by omega)
  simp only [Option.some.injEq, Addr.mk.injEq, and_true] at he
  obtain ⟨rfl, rfl⟩ := he
  have x6 := gt_bd hr.2.1 6
  have h0' : (gt b 0 / 16 != 6) = false := by simpa using h0
  have h4' : (w16 b 4 != (b.length : Int) - 40) = false := by simpa using h4
  have i6 : (6 : Int) < (b.length : Int) := by omega
  have h6' : (gt b 6 != 44) = false := by simpa using h6
  have hl8 : ¬ ((b.length : Int) < 48) := by omega
  obtain ⟨bk', off', he, c41⟩ := hr.at 41 (by omega)
  simp only [Option.some.injEq, Addr.mk.injEq, and_true] at he
  obtain ⟨rfl, rfl⟩ := he
  have x41 := gt_bd hr.2.1 41
  obtain ⟨bk', off', he, c43⟩ := hr.at 43 (by omega)
  simp only [Option.some.injEq, Addr.mk.injEq, and_true] at he
  obtain ⟨rfl, rfl⟩ := he
  have x43 := gt_bd hr.2.1 43
  obtain ⟨bk', off', he, c40⟩ := hr.at 40 (by omega)
  simp only [Option.some.injEq, Addr.mk.injEq, and_true] at he
  obtain ⟨rfl, rfl⟩ := he
  have x40 := gt_bd hr.2.1 40
  have i41 : (41 : Int) < (b.length : Int) := by omega
  have i43 : (43 : Int) < (b.length : Int) := by omega
  have i40 : (40 : Int) < (b.length : Int) := by omega
  have k41' : (gt b 41 != 0) = false := by simpa using k41
  have k43' : (gt b 43 % 8 / 2 != 0) = false := by simpa using k43
  have k40' : (gt b 40 == 44) = false := by simpa using k40
  have K42 : Hid (∀ W, Away [] w W → Calls Tryd.prog 81 #[.slice (some ⟨bk, off, none⟩) b.length cap, .int .i64 42] W fun E w' => E = .returned (.int .i64 (w16 b 42)) ∧ Away [] W w') := fun W h => rget8_c (some ⟨bk, off, none⟩) b cap 42 W (hr.on h) (by omega)
  have v42 : 0 ≤ w16 b 42 ∧ w16 b 42 ≤ 65535 := by have h1 := gt_bd hr.2.1 42; have h2 := gt_bd hr.2.1 43; have e : w16 b 42 = 256 * gt b 42 + gt b 43 := rfl; omega
  have n1 : ((b.length : Int) - 48) ≤ 65535 - w16 b 42 / 8 * 8 := by omega
  have m1 : (gt b 43 % 2 == 1) = true := by simpa using hm
  have z1 : (((b.length : Int) - 48) == 0) = true := by simp; omega
  have HH := Lib.hid h
  clear h
  clear h4
  generalize gt b 0 = y0 at *
  generalize gt b 6 = y6 at *
  generalize gt b 41 = y41 at *
  generalize gt b 43 = y43 at *
  generalize gt b 40 = y40 at *
  have HC6 : Hid (∀ W, Away [] w W → W.cell? ⟨bk, off + 6, none⟩ = some (.int .u8 y6)) := fun W h => h.cell (by simp) c6
  have HC41 : Hid (∀ W, Away [] w W → W.cell? ⟨bk, off + 41, none⟩ = some (.int .u8 y41)) := fun W h => h.cell (by simp) c41
  have HC43 : Hid (∀ W, Away [] w W → W.cell? ⟨bk, off + 43, none⟩ = some (.int .u8 y43)) := fun W h => h.cell (by simp) c43
  have HC40 : Hid (∀ W, Away [] w W → W.cell? ⟨bk, off + 40, none⟩ = some (.int .u8 y40)) := fun W h => h.cell (by simp) c40
  generalize w16 b 4 = z4 at *
  generalize w16 b 42 = z42 at *
  have HA : Hid (Away [] w w) := Away.refl _ _
  clear hr
  go_enter Tryd.func43, Tryd.ntmps43
  go_wp2_with fail
  refine (K4.out _ HA.out).mono ?_
  rintro E w1 ⟨rfl, haw⟩
  replace HA := Lib.hid (HA.out.on haw)
  have d6 := HC6.out _ HA.out
  have d41 := HC41.out _ HA.out
  have d43 := HC43.out _ HA.out
  have d40 := HC40.out _ HA.out
  clear haw
  go_wp2_with fail
  refine (K42.out _ HA.out).mono ?_
  rintro E w2 ⟨rfl, haw⟩
  replace HA := Lib.hid (HA.out.on haw)
  clear d6 d41 d40 d43
  have d43 := HC43.out _ HA.out
  clear haw
  go_wp2_with fail
  go_ret
  exact ⟨rfl, HA.out⟩
theorem six_k (a : Option Addr) (b : List Int) (cap : Nat) (w : World) (hr : Row w a b) (h40 : 40 ≤ b.length) (h0 : gt b 0 / 16 = 6) (h4 : w16 b 4 = (b.length : Int) - 40) (h6 : gt b 6 = 44) (h48 : 48 ≤ b.length) (k41 : gt b 41 = 0) (k43 : gt b 43 % 8 / 2 = 0) (k40 : gt b 40 ≠ 44) (hn : ((b.length : Int) - 48) ≤ 65535 - w16 b 42 / 8 * 8) (hm : gt b 43 % 2 = 1) (h1 : b.length ≠ 48) (h : (b.length - 48) % 8 ≠ 0) :
    Calls Tryd.prog 43 #[.slice a b.length cap] w fun E w' => E = .returned (.bool false) ∧ Away [] w w' := by
  have hlen := hr.1
  have hl' : ¬ ((b.length : Int) < 40) := by omega
  have i0 : (0 : Int) < (b.length : Int) := by omega
  have K4 : Hid (∀ W, Away [] w W → Calls Tryd.prog 81 #[.slice a b.length cap, .int .i64 4] W fun E w' => E = .returned (.int .i64 (w16 b 4)) ∧ Away [] W w') := fun W h => rget8_c a b cap 4 W (hr.on h) (by omega)
  have v4 : 0 ≤ w16 b 4 ∧ w16 b 4 ≤ 65535 := by have h1 := gt_bd hr.2.1 4; have h2 := gt_bd hr.2.1 5; have e : w16 b 4 = 256 * gt b 4 + gt b 5 := rfl; omega
  obtain ⟨bk, off, hat, c0⟩ := hr.at 0 (by omega)
  subst hat
  simp only [Nat.add_zero] at c0
  have x0 := gt_bd hr.2.1 0
  obtain ⟨bk', off', he, c6⟩ := hr.at 6 (by omega)
  simp only [Option.some.injEq, Addr.mk.injEq, and_true] at he
  obtain ⟨rfl, rfl⟩ := he
  have x6 := gt_bd hr.2.1 6
  have h0' : (gt b 0 / 16 != 6) = false := by simpa using h0
  have h4' : (w16 b 4 != (b.length : Int) - 40) = false := by simpa using h4
  have i6 : (6 : Int) < (b.length : Int) := by omega
  have h6' : (gt b 6 != 44) = false := by simpa using h6
  have hl8 : ¬ ((b.length : Int) < 48) := by omega
  obtain ⟨bk', off', he, c41⟩ := hr.at 41 (by omega)
  simp only [Option.some.injEq, Addr.mk.injEq, and_true] at he
  obtain ⟨rfl, rfl⟩ := he
  have x41 := gt_bd hr.2.1 41
  obtain ⟨bk', off', he, c43⟩ := hr.at 43 (by omega)
  simp only [Option.some.injEq, Addr.mk.injEq, and_true] at he
  obtain ⟨rfl, rfl⟩ := he
  have x43 := gt_bd hr.2.1 43
  obtain ⟨bk', off', he, c40⟩ := hr.at 40 (by omega)
  simp only [Option.some.injEq, Addr.mk.injEq, and_true] at he
  obtain ⟨rfl, rfl⟩ := he
  have x40 := gt_bd hr.2.1 40
  have i41 : (41 : Int) < (b.length : Int) := by omega
  have i43 : (43 : Int) < (b.length : Int) := by omega
  have i40 : (40 : Int) < (b.length : Int) := by omega
  have k41' : (gt b 41 != 0) = false := by simpa using k41
  have k43' : (gt b 43 % 8 / 2 != 0) = false := by simpa using k43
  have k40' : (gt b 40 == 44) = false := by simpa using k40
  have K42 : Hid (∀ W, Away [] w W → Calls Tryd.prog 81 #[.slice (some ⟨bk, off, none⟩) b.length cap, .int .i64 42] W fun E w' => E = .returned (.int .i64 (w16 b 42)) ∧ Away [] W w') := fun W h => rget8_c (some ⟨bk, off, none⟩) b cap 42 W (hr.on h) (by omega)
  have v42 : 0 ≤ w16 b 42 ∧ w16 b 42 ≤ 65535 := by have h1 := gt_bd hr.2.1 42; have h2 := gt_bd hr.2.1 43; have e : w16 b 42 = 256 * gt b 42 + gt b 43 := rfl; omega
  have n1 : ((b.length : Int) - 48) ≤ 65535 - w16 b 42 / 8 * 8 := by omega
  have m1 : (gt b 43 % 2 == 1) = true := by simpa using hm
  have z1 : (((b.length : Int) - 48) == 0) = false := by simp; omega
  have z8 : (((b.length : Int) - 48) % 8 != 0) = true := by simp; omega
  clear h4
  generalize gt b 0 = y0 at *
  generalize gt b 6 = y6 at *
  generalize gt b 41 = y41 at *
  generalize gt b 43 = y43 at *
  generalize gt b 40 = y40 at *
  have HC6 : Hid (∀ W, Away [] w W → W.cell? ⟨bk, off + 6, none⟩ = some (.int .u8 y6)) := fun W h => h.cell (by simp) c6
  have HC41 : Hid (∀ W, Away [] w W → W.cell? ⟨bk, off + 41, none⟩ = some (.int .u8 y41)) := fun W h => h.cell (by simp) c41
  have HC43 : Hid (∀ W, Away [] w W → W.cell? ⟨bk, off + 43, none⟩ = some (.int .u8 y43)) := fun W h => h.cell (by simp) c43
  have HC40 : Hid (∀ W, Away [] w W → W.cell? ⟨bk, off + 40, none⟩ = some (.int .u8 y40)) := fun W h => h.cell (by simp) c40
  generalize w16 b 4 = z4 at *
  generalize w16 b 42 = z42 at *
  have HA : Hid (Away [] w w) := Away.refl _ _
  clear hr
  go_enter Tryd.func43, Tryd.ntmps43
  go_wp2_with fail
  refine (K4.out _ HA.out).mono ?_
  rintro E w1 ⟨rfl, haw⟩
  replace HA := Lib.hid (HA.out.on haw)
  have d6 := HC6.out _ HA.out
  have d41 := HC41.out _ HA.out
  have d43 := HC43.out _ HA.out
  have d40 := HC40.out _ HA.out
  clear haw
  go_wp2_with fail
  refine (K42.out _ HA.out).mono ?_
  rintro E w2 ⟨rfl, haw⟩
  replace HA := Lib.hid (HA.out.on haw)
  clear d6 d41 d40 d43
  have d43 := HC43.out _ HA.out
  clear haw
  go_wp2_with fail
  go_ret
  exact ⟨rfl, HA.out⟩
theorem six_l (a : Option Addr) (b : List Int) (cap : Nat) (w : World) (hr : Row w a b) (h40 : 40 ≤ b.length) (h0 : gt b 0 / 16 = 6) (h4 : w16 b 4 = (b.length : Int) - 40) (h6 : gt b 6 = 44) (h48 : 48 ≤ b.length) (k41 : gt b 41 = 0) (k43 : gt b 43 % 8 / 2 = 0) (k40 : gt b 40 ≠ 44) (hn : ((b.length : Int) - 48) ≤ 65535 - w16 b 42 / 8 * 8) (hm : gt b 43 % 2 = 1) (h1 : b.length ≠ 48) (h2 : (b.length - 48) % 8 = 0) (ho : 0 < w16 b 42 / 8 * 8) :
    Calls Tryd.prog 43 #[.slice a b.length cap] w fun E w' => E = .returned (.bool true) ∧ Away [] w w' := by
  have hlen := hr.1
  have hl' : ¬ ((b.length : Int) < 40) := by omega
  have i0 : (0 : Int) < (b.length : Int) := by omega
  have K4 : Hid (∀ W, Away [] w W → Calls Tryd.prog 81 #[.slice a b.length cap, .int .i64 4] W fun E w' => E = .returned (.int .i64 (w16 b 4)) ∧ Away [] W w') := fun W h => rget8_c a b cap 4 W (hr.on h) (by omega)
  have v4 : 0 ≤ w16 b 4 ∧ w16 b 4 ≤ 65535 := by have h1 := gt_bd hr.2.1 4; have h2 := gt_bd hr.2.1 5; have e : w16 b 4 = 256 * gt b 4 + gt b 5 := rfl; omega
  obtain ⟨bk, off, hat, c0⟩ := hr.at 0 (by omega)
  subst hat
  simp only [Nat.add_zero] at c0
  have x0 := gt_bd hr.2.1 0
  obtain ⟨bk', off', he, c6⟩ := hr.at 6 (by omega)
  simp only [Option.some.injEq, Addr.mk.injEq, and_true] at he
  obtain ⟨rfl, rfl⟩ := he
  have x6 := gt_bd hr.2.1 6
  have h0' : (gt b 0 / 16 != 6) = false := by simpa using h0
  have h4' : (w16 b 4 != (b.length : Int) - 40) = false := by simpa using h4
  have i6 : (6 : Int) < (b.length : Int) := by omega
  have h6' : (gt b 6 != 44) = false := by simpa using h6
  have hl8 : ¬ ((b.length : Int) < 48) := by omega
  obtain ⟨bk', off', he, c41⟩ := hr.at 41 (by omega)
  simp only [Option.some.injEq, Addr.mk.injEq, and_true] at he
  obtain ⟨rfl, rfl⟩ := he
  have x41 := gt_bd hr.2.1 41
  obtain ⟨bk', off', he, c43⟩ := hr.at 43 (by omega)
  simp only [Option.some.injEq, Addr.mk.injEq, and_true] at he
  obtain ⟨rfl, rfl⟩ := he
  have x43 := gt_bd hr.2.1 43
  obtain ⟨bk', off', he, c40⟩ := hr.at 40 (by omega)
  simp only [Option.some.injEq, Addr.mk.injEq, and_true] at he
  obtain ⟨rfl, rfl⟩ := he
  have x40 := gt_bd hr.2.1 40
  have i41 : (41 : Int) < (b.length : Int) := by omega
  have i43 : (43 : Int) < (b.length : Int) := by omega
  have i40 : (40 : Int) < (b.length : Int) := by omega
  have k41' : (gt b 41 != 0) = false := by simpa using k41
  have k43' : (gt b 43 % 8 / 2 != 0) = false := by simpa using k43
  have k40' : (gt b 40 == 44) = false := by simpa using k40
  have K42 : Hid (∀ W, Away [] w W → Calls Tryd.prog 81 #[.slice (some ⟨bk, off, none⟩) b.length cap, .int .i64 42] W fun E w' => E = .returned (.int .i64 (w16 b 42)) ∧ Away [] W w') := fun W h => rget8_c (some ⟨bk, off, none⟩) b cap 42 W (hr.on h) (by omega)
  have v42 : 0 ≤ w16 b 42 ∧ w16 b 42 ≤ 65535 := by have h1 := gt_bd hr.2.1 42; have h2 := gt_bd hr.2.1 43; have e : w16 b 42 = 256 * gt b 42 + gt b 43 := rfl; omega
  have n1 : ((b.length : Int) - 48) ≤ 65535 - w16 b 42 / 8 * 8 := by omega
  have m1 : (gt b 43 % 2 == 1) = true := by simpa using hm
  have z1 : (((b.length : Int) - 48) == 0) = false := by simp; omega
  have z8 : (((b.length : Int) - 48) % 8 != 0) = false := by simp; omega
  have o1 : 0 < w16 b 42 / 8 * 8 := by omega
  clear h4
  generalize gt b 0 = y0 at *
  generalize gt b 6 = y6 at *
  generalize gt b 41 = y41 at *
  generalize gt b 43 = y43 at *
  generalize gt b 40 = y40 at *
  have HC6 : Hid (∀ W, Away [] w W → W.cell? ⟨bk, off + 6, none⟩ = some (.int .u8 y6)) := fun W h => h.cell (by simp) c6
  have HC41 : Hid (∀ W, Away [] w W → W.cell? ⟨bk, off + 41, none⟩ = some (.int .u8 y41)) := fun W h => h.cell (by simp) c41
  have HC43 : Hid (∀ W, Away [] w W → W.cell? ⟨bk, off + 43, none⟩ = some (.int .u8 y43)) := fun W h => h.cell (by simp) c43
  have HC40 : Hid (∀ W, Away [] w W → W.cell? ⟨bk, off + 40, none⟩ = some (.int .u8 y40)) := fun W h => h.cell (by simp) c40
  generalize w16 b 4 = z4 at *
  generalize w16 b 42 = z42 at *
  have HA : Hid (Away [] w w) := Away.refl _ _
  clear hr
  go_enter Tryd.func43, Tryd.ntmps43
  go_wp2_with fail
  refine (K4.out _ HA.out).mono ?_
  rintro E w1 ⟨rfl, haw⟩
  replace HA := Lib.hid (HA.out.on haw)
  have d6 := HC6.out _ HA.out
  have d41 := HC41.out _ HA.out
  have d43 := HC43.out _ HA.out
  have d40 := HC40.out _ HA.out
  clear haw
  go_wp2_with fail
  refine (K42.out _ HA.out).mono ?_
  rintro E w2 ⟨rfl, haw⟩
  replace HA := Lib.hid (HA.out.on haw)
  clear d6 d41 d40 d43
  have d43 := HC43.out _ HA.out
  clear haw
  go_wp2_with fail
  go_ret
  exact ⟨rfl, HA.out⟩
theorem six_m (a : Option Addr) (b : List Int) (cap : Nat) (w : World) (hr : Row w a b) (h40 : 40 ≤ b.length) (h0 : gt b 0 / 16 = 6) (h4 : w16 b 4 = (b.length : Int) - 40) (h6 : gt b 6 = 44) (h48 : 48 ≤ b.length) (k41 : gt b 41 = 0) (k43 : gt b 43 % 8 / 2 = 0) (k40 : gt b 40 ≠ 44) (hn : ((b.length : Int) - 48) ≤ 65535 - w16 b 42 / 8 * 8) (hm : gt b 43 % 2 = 1) (h1 : b.length ≠ 48) (h2 : (b.length - 48) % 8 = 0) (ho : ¬ 0 < w16 b 42 / 8 * 8) :
    Calls Tryd.prog 43 #[.slice a b.length cap] w fun E w' => E = .returned (.bool true) ∧ Away [] w w' := by
  have hlen := hr.1
  have hl' : ¬ ((b.length : Int) < 40) := by omega
  have i0 : (0 : Int) < (b.length : Int) := by omega
  have K4 : Hid (∀ W, Away [] w W → Calls Tryd.prog 81 #[.slice a b.length cap, .int .i64 4] W fun E w' => E = .returned (.int .i64 (w16 b 4)) ∧ Away [] W w') := fun W h => rget8_c a b cap 4 W (hr.on h) (by omega)
  have v4 : 0 ≤ w16 b 4 ∧ w16 b 4 ≤ 65535 := by have h1 := gt_bd hr.2.1 4; have h2 := gt_bd hr.2.1 5; have e : w16 b 4 = 256 * gt b 4 + gt b 5 := rfl; omega
  obtain ⟨bk, off, hat, c0⟩ := hr.at 0 (by omega)
  subst hat
  simp only [Nat.add_zero] at c0
  have x0 := gt_bd hr.2.1 0
  obtain ⟨bk', off', he, c6⟩ := hr.at 6 (by omega)
  simp only [Option.some.injEq, Addr.mk.injEq, and_true] at he
  obtain ⟨rfl, rfl⟩ := he
  have x6 := gt_bd hr.2.1 6
  have h0' : (gt b 0 / 16 != 6) = false := by simpa using h0
  have h4' : (w16 b 4 != (b.length : Int) - 40) = false := by simpa using h4
  have i6 : (6 : Int) < (b.length : Int) := by omega
  have h6' : (gt b 6 != 44) = false := by simpa using h6
  have hl8 : ¬ ((b.length : Int) < 48) := by omega
  obtain ⟨bk', off', he, c41⟩ := hr.at 41 (by omega)
  simp only [Option.some.injEq, Addr.mk.injEq, and_true] at he
  obtain ⟨rfl, rfl⟩ := he
  have x41 := gt_bd hr.2.1 41
  obtain ⟨bk', off', he, c43⟩ := hr.at 43 (by omega)
  simp only [Option.some.injEq, Addr.mk.injEq, and_true] at he
  obtain ⟨rfl, rfl⟩ := he
  have x43 := gt_bd hr.2.1 43
  obtain ⟨bk', off', he, c40⟩ := hr.at 40 (by omega)
  simp only [Option.some.injEq, Addr.mk.injEq, and_true] at he
  obtain ⟨rfl, rfl⟩ := he
  have x40 := gt_bd hr.2.1 40
  have i41 : (41 : Int) < (b.length : Int) := by omega
  have i43 : (43 : Int) < (b.length : Int) := by omega
  have i40 : (40 : Int) < (b.length : Int) := by omega
  have k41' : (gt b 41 != 0) = false := by simpa using k41
  have k43' : (gt b 43 % 8 / 2 != 0) = false := by simpa using k43
  have k40' : (gt b 40 == 44) = false := by simpa using k40
  have K42 : Hid (∀ W, Away [] w W → Calls Tryd.prog 81 #[.slice (some ⟨bk, off, none⟩) b.length cap, .int .i64 42] W fun E w' => E = .returned (.int .i64 (w16 b 42)) ∧ Away [] W w') := fun W h => rget8_c (some ⟨bk, off, none⟩) b cap 42 W (hr.on h) (by omega)
  have v42 : 0 ≤ w16 b 42 ∧ w16 b 42 ≤ 65535 := by have h1 := gt_bd hr.2.1 42; have h2 := gt_bd hr.2.1 43; have e : w16 b 42 = 256 * gt b 42 + gt b 43 := rfl; omega
  have n1 : ((b.length : Int) - 48) ≤ 65535 - w16 b 42 / 8 * 8 := by omega
  have m1 : (gt b 43 % 2 == 1) = true := by simpa using hm
  have z1 : (((b.length : Int) - 48) == 0) = false := by simp; omega
  have z8 : (((b.length : Int) - 48) % 8 != 0) = false := by simp; omega
  have o1 : ¬ (0 < w16 b 42 / 8 * 8) := by omega
  clear h4
  generalize gt b 0 = y0 at *
  generalize gt b 6 = y6 at *
  generalize gt b 41 = y41 at *
  generalize gt b 43 = y43 at *
  generalize gt b 40 = y40 at *
  have HC6 : Hid (∀ W, Away [] w W → W.cell? ⟨bk, off + 6, none⟩ = some (.int .u8 y6)) := fun W h => h.cell (by simp) c6
  have HC41 : Hid (∀ W, Away [] w W → W.cell? ⟨bk, off + 41, none⟩ = some (.int .u8 y41)) := fun W h => h.cell (by simp) c41
  have HC43 : Hid (∀ W, Away [] w W → W.cell? ⟨bk, off + 43, none⟩ = some (.int .u8 y43)) := fun W h => h.cell (by simp) c43
  have HC40 : Hid (∀ W, Away [] w W → W.cell? ⟨bk, off + 40, none⟩ = some (.int .u8 y40)) := fun W h => h.cell (by simp) c40
  generalize w16 b 4 = z4 at *
  generalize w16 b 42 = z42 at *
  have HA : Hid (Away [] w w) := Away.refl _ _
  clear hr
  go_enter Tryd.func43, Tryd.ntmps43
  go_wp2_with fail
  refine (K4.out _ HA.out).mono ?_
  rintro E w1 ⟨rfl, haw⟩
  replace HA := Lib.hid (HA.out.on haw)
  have d6 := HC6.out _ HA.out
  have d41 := HC41.out _ HA.out
  have d43 := HC43.out _ HA.out
  have d40 := HC40.out _ HA.out
  clear haw
  go_wp2_with fail
  refine (K42.out _ HA.out).mono ?_
  rintro E w2 ⟨rfl, haw⟩
  replace HA := Lib.hid (HA.out.on haw)
  clear d6 d41 d40 d43
  have d43 := HC43.out _ HA.out
  clear haw
  go_wp2_with fail
  go_ret
  exact ⟨rfl, HA.out⟩
theorem six_n (a : Option Addr) (b : List Int) (cap : Nat) (w : World) (hr : Row w a b) (h40 : 40 ≤ b.length) (h0 : gt b 0 / 16 = 6) (h4 : w16 b 4 = (b.length : Int) - 40) (h6 : gt b 6 = 44) (h48 : 48 ≤ b.length) (k41 : gt b 41 = 0) (k43 : gt b 43 % 8 / 2 = 0) (k40 : gt b 40 ≠ 44) (hn : ((b.length : Int) - 48) ≤ 65535 - w16 b 42 / 8 * 8) (hm : gt b 43 % 2 ≠ 1) (ho : 0 < w16 b 42 / 8 * 8) (h : b.length = 48) :
    Calls Tryd.prog 43 #[.slice a b.length cap] w fun E w' => E = .returned (.bool false) ∧ Away [] w w' := by
  have hlen := hr.1
  have hl' : ¬ ((b.length : Int) < 40) := by omega
  have i0 : (0 : Int) < (b.length : Int) := by omega
  have K4 : Hid (∀ W, Away [] w W → Calls Tryd.prog 81 #[.slice a b.length cap, .int .i64 4] W fun E w' => E = .returned (.int .i64 (w16 b 4)) ∧ Away [] W w') := fun W h => rget8_c a b cap 4 W (hr.on h) (by omega)
  have v4 : 0 ≤ w16 b 4 ∧ w16 b 4 ≤ 65535 := by have h1 := gt_bd hr.2.1 4; have h2 := gt_bd hr.2.1 5; have e : w16 b 4 = 256 * gt b 4 + gt b 5 := rfl; omega
  obtain ⟨bk, off, hat, c0⟩ := hr.at 0 (by omega)
  subst hat
  simp only [Nat.add_zero] at c0
  have x0 := gt_bd hr.2.1 0
  obtain ⟨bk', off', he, c6⟩ := hr.at 6 (by omega)
  simp only [Option.some.injEq, Addr.mk.injEq, and_true] at he
  obtain ⟨rfl, rfl⟩ := he
  have x6 := gt_bd hr.2.1 6
  have h0' : (gt b 0 / 16 != 6) = false := by simpa using h0
  have h4' : (w16 b 4 != (b.length : Int) - 40) = false := by simpa using h4
  have i6 : (6 : Int) < (b.length : Int) := by omega
  have h6' : (gt b 6 != 44) = false := by simpa using h6
  have hl8 : ¬ ((b.length : Int) < 48) := by omega
  obtain ⟨bk', off', he, c41⟩ := hr.at 41 (by omega)
  simp only [Option.some.injEq, Addr.mk.injEq, and_true] at he
  obtain ⟨rfl, rfl⟩ := he
  have x41 := gt_bd hr.2.1 41
  obtain ⟨bk', off', he, c43⟩ := hr.at 43 (by omega)
  simp only [Option.some.injEq, Addr.mk.injEq, and_true] at he
  obtain ⟨rfl, rfl⟩ := he
  have x43 := gt_bd hr.2.1 43
  obtain ⟨bk', off', he, c40⟩ := hr.at 40 (by omega)
  simp only [Option.some.injEq, Addr.mk.injEq, and_true] at he
  obtain ⟨rfl, rfl⟩ := he
  have x40 := gt_bd hr.2.1 40
  have i41 : (41 : Int) < (b.length : Int) := by omega
  have i43 : (43 : Int) < (b.length : Int) := by omega
  have i40 : (40 : Int) < (b.length : Int) := by omega
  have k41' : (gt b 41 != 0) = false := by simpa using k41
  have k43' : (gt b 43 % 8 / 2 != 0) = false := by simpa using k43
  have k40' : (gt b 40 == 44) = false := by simpa using k40
  have K42 : Hid (∀ W, Away [] w W → Calls Tryd.prog 81 #[.slice (some ⟨bk, off, none⟩) b.length cap, .int .i64 42] W fun E w' => E = .returned (.int .i64 (w16 b 42)) ∧ Away [] W w') := fun W h => rget8_c (some ⟨bk, off, none⟩) b cap 42 W (hr.on h) (by omega)
  have v42 : 0 ≤ w16 b 42 ∧ w16 b 42 ≤ 65535 := by have h1 := gt_bd hr.2.1 42; have h2 := gt_bd hr.2.1 43; have e : w16 b 42 = 256 * gt b 42 + gt b 43 := rfl; omega
  have n1 : ((b.length : Int) - 48) ≤ 65535 - w16 b 42 / 8 * 8 := by omega
  have m1 : (gt b 43 % 2 == 1) = false := by simpa using hm
  have o1 : 0 < w16 b 42 / 8 * 8 := by omega
  have z1 : (((b.length : Int) - 48) == 0) = true := by simp; omega
  have HH := Lib.hid h
  clear h
  clear h4
  generalize gt b 0 = y0 at *
  generalize gt b 6 = y6 at *
  generalize gt b 41 = y41 at *
  generalize gt b 43 = y43 at *
  generalize gt b 40 = y40 at *
  have HC6 : Hid (∀ W, Away [] w W → W.cell? ⟨bk, off + 6, none⟩ = some (.int .u8 y6)) := fun W h => h.cell (by simp) c6
  have HC41 : Hid (∀ W, Away [] w W → W.cell? ⟨bk, off + 41, none⟩ = some (.int .u8 y41)) := fun W h => h.cell (by simp) c41
  have HC43 : Hid (∀ W, Away [] w W → W.cell? ⟨bk, off + 43, none⟩ = some (.int .u8 y43)) := fun W h => h.cell (by simp) c43
  have HC40 : Hid (∀ W, Away [] w W → W.cell? ⟨bk, off + 40, none⟩ = some (.int .u8 y40)) := fun W h => h.cell (by simp) c40
  generalize w16 b 4 = z4 at *
  generalize w16 b 42 = z42 at *
  have HA : Hid (Away [] w w) := Away.refl _ _
  clear hr
  go_enter Tryd.func43, Tryd.ntmps43
  go_wp2_with fail
  refine (K4.out _ HA.out).mono ?_
  rintro E w1 ⟨rfl, haw⟩
  replace HA := Lib.hid (HA.out.on haw)
  have d6 := HC6.out _ HA.out
  have d41 := HC41.out _ HA.out
  have d43 := HC43.out _ HA.out
  have d40 := HC40.out _ HA.out
  clear haw
  go_wp2_with fail
  refine (K42.out _ HA.out).mono ?_
  rintro E w2 ⟨rfl, haw⟩
  replace HA := Lib.hid (HA.out.on haw)
  clear d6 d41 d40 d43
  have d43 := HC43.out _ HA.out
  clear haw
  go_wp2_with fail
  go_ret
  exact ⟨rfl, HA.out⟩
theorem six_o (a : Option Addr) (b : List Int) (cap : Nat) (w : World) (hr : Row w a b) (h40 : 40 ≤ b.length) (h0 : gt b 0 / 16 = 6) (h4 : w16 b 4 = (b.length : Int) - 40) (h6 : gt b 6 = 44) (h48 : 48 ≤ b.length) (k41 : gt b 41 = 0) (k43 : gt b 43 % 8 / 2 = 0) (k40 : gt b 40 ≠ 44) (hn : ((b.length : Int) - 48) ≤ 65535 - w16 b 42 / 8 * 8) (hm : gt b 43 % 2 ≠ 1) (ho : 0 < w16 b 42 / 8 * 8) (h : b.length ≠ 48) :
    Calls Tryd.prog 43 #[.slice a b.length cap] w fun E w' => E = .returned (.bool true) ∧ Away [] w w' := by
  have hlen := hr.1
  have hl' : ¬ ((b.length : Int) < 40) := by omega
  have i0 : (0 : Int) < (b.length : Int) := by omega
  have K4 : Hid (∀ W, Away [] w W → Calls Tryd.prog 81 #[.slice a b.length cap, .int .i64 4] W fun E w' => E = .returned (.int .i64 (w16 b 4)) ∧ Away [] W w') := fun W h => rget8_c a b cap 4 W (hr.on h) (by omega)
  have v4 : 0 ≤ w16 b 4 ∧ w16 b 4 ≤ 65535 := by have h1 := gt_bd hr.2.1 4; have h2 := gt_bd hr.2.1 5; have e : w16 b 4 = 256 * gt b 4 + gt b 5 := rfl; omega
  obtain ⟨bk, off, hat, c0⟩ := hr.at 0 (by omega)
  subst hat
  simp only [Nat.add_zero] at c0
  have x0 := gt_bd hr.2.1 0
  obtain ⟨bk', off', he, c6⟩ := hr.at 6 (by omega)
  simp only [Option.some.injEq, Addr.mk.injEq, and_true] at he
  obtain ⟨rfl, rfl⟩ := he
  have x6 := gt_bd hr.2.1 6
  have h0' : (gt b 0 / 16 != 6) = false := by simpa using h0
  have h4' : (w16 b 4 != (b.length : Int) - 40) = false := by simpa using h4
  have i6 : (6 : Int) < (b.length : Int) := by omega
  have h6' : (gt b 6 != 44) = false := by simpa using h6
  have hl8 : ¬ ((b.length : Int) < 48) := by omega
  obtain ⟨bk', off', he, c41⟩ := hr.at 41 (by omega)
  simp only [Option.some.injEq, Addr.mk.injEq, and_true] at he
  obtain ⟨rfl, rfl⟩ := he
  have x41 := gt_bd hr.2.1 41
  obtain ⟨bk', off', he, c43⟩ := hr.at 43 (by omega)
  simp only [Option.some.injEq, Addr.mk.injEq, and_true] at he
  obtain ⟨rfl, rfl⟩ := he
  have x43 := gt_bd hr.2.1 43
  obtain ⟨bk', off', he, c40⟩ := hr.at 40 (by omega)
  simp only [Option.some.injEq, Addr.mk.injEq, and_true] at he
  obtain ⟨rfl, rfl⟩ := he
  have x40 := gt_bd hr.2.1 40
  have i41 : (41 : Int) < (b.length : Int) := by omega
  have i43 : (43 : Int) < (b.length : Int) := by omega
  have i40 : (40 : Int) < (b.length : Int) := by omega
  have k41' : (gt b 41 != 0) = false := by simpa using k41
  have k43' : (gt b 43 % 8 / 2 != 0) = false := by simpa using k43
  have k40' : (gt b 40 == 44) = false := by simpa using k40
  have K42 : Hid (∀ W, Away [] w W → Calls Tryd.prog 81 #[.slice (some ⟨bk, off, none⟩) b.length cap, .int .i64 42] W fun E w' => E = .returned (.int .i64 (w16 b 42)) ∧ Away [] W w') := fun W h => rget8_c (some ⟨bk, off, none⟩) b cap 42 W (hr.on h) (by omega)
  have v42 : 0 ≤ w16 b 42 ∧ w16 b 42 ≤ 65535 := by have h1 := gt_bd hr.2.1 42; have h2 := gt_bd hr.2.1 43; have e : w16 b 42 = 256 * gt b 42 + gt b 43 := rfl; omega
  have n1 : ((b.length : Int) - 48) ≤ 65535 - w16 b 42 / 8 * 8 := by omega
  have m1 : (gt b 43 % 2 == 1) = false := by simpa using hm
  have o1 : 0 < w16 b 42 / 8 * 8 := by omega
  have z1 : (((b.length : Int) - 48) == 0) = false := by simp; omega
  clear h4
  generalize gt b 0 = y0 at *
  generalize gt b 6 = y6 at *
  generalize gt b 41 = y41 at *
  generalize gt b 43 = y43 at *
  generalize gt b 40 = y40 at *
  have HC6 : Hid (∀ W, Away [] w W → W.cell? ⟨bk, off + 6, none⟩ = some (.int .u8 y6)) := fun W h => h.cell (by simp) c6
  have HC41 : Hid (∀ W, Away [] w W → W.cell? ⟨bk, off + 41, none⟩ = some (.int .u8 y41)) := fun W h => h.cell (by simp) c41
  have HC43 : Hid (∀ W, Away [] w W → W.cell? ⟨bk, off + 43, none⟩ = some (.int .u8 y43)) := fun W h => h.cell (by simp) c43
  have HC40 : Hid (∀ W, Away [] w W → W.cell? ⟨bk, off + 40, none⟩ = some (.int .u8 y40)) := fun W h => h.cell (by simp) c40
  generalize w16 b 4 = z4 at *
  generalize w16 b 42 = z42 at *
  have HA : Hid (Away [] w w) := Away.refl _ _
  clear hr
  go_enter Tryd.func43, Tryd.ntmps43
  go_wp2_with fail
  refine (K4.out _ HA.out).mono ?_
  rintro E w1 ⟨rfl, haw⟩
  replace HA := Lib.hid (HA.out.on haw)
  have d6 := HC6.out _ HA.out
  have d41 := HC41.out _ HA.out
  have d43 := HC43.out _ HA.out
  have d40 := HC40.out _ HA.out
  clear haw
  go_wp2_with fail
  refine (K42.out _ HA.out).mono ?_
  rintro E w2 ⟨rfl, haw⟩
  replace HA := Lib.hid (HA.out.on haw)
  clear d6 d41 d40 d43
  have d43 := HC43.out _ HA.out
  clear haw
  go_wp2_with fail
  go_ret
  exact ⟨rfl, HA.out⟩
theorem six_p (a : Option Addr) (b : List Int) (cap : Nat) (w : World) (hr : Row w a b) (h40 : 40 ≤ b.length) (h0 : gt b 0 / 16 = 6) (h4 : w16 b 4 = (b.length : Int) - 40) (h6 : gt b 6 = 44) (h48 : 48 ≤ b.length) (k41 : gt b 41 = 0) (k43 : gt b 43 % 8 / 2 = 0) (k40 : gt b 40 ≠ 44) (hn : ((b.length : Int) - 48) ≤ 65535 - w16 b 42 / 8 * 8) (hm : gt b 43 % 2 ≠ 1) (ho : ¬ 0 < w16 b 42 / 8 * 8) :
    Calls Tryd.prog 43 #[.slice a b.length cap] w fun E w' => E = .returned (.bool true) ∧ Away [] w w' := by
  have hlen := hr.1
  have hl' : ¬ ((b.length : Int) < 40) := by omega
  have i0 : (0 : Int) < (b.length : Int) := by omega
  have K4 : Hid (∀ W, Away [] w W → Calls Tryd.prog 81 #[.slice a b.length cap, .int .i64 4] W fun E w' => E = .returned (.int .i64 (w16 b 4)) ∧ Away [] W w') := fun W h => rget8_c a b cap 4 W (hr.on h) (by omega)
  have v4 : 0 ≤ w16 b 4 ∧ w16 b 4 ≤ 65535 := by have h1 := gt_bd hr.2.1 4; have h2 := gt_bd hr.2.1 5; have e : w16 b 4 = 256 * gt b 4 + gt b 5 := rfl; omega
  obtain ⟨bk, off, hat, c0⟩ := hr.at 0 (by omega)
  subst hat
  simp only [Nat.add_zero] at c0
  have x0 := gt_bd hr.2.1 0
  obtain ⟨bk', off', he, c6⟩ := hr.at 6 (by omega)
  simp only [Option.some.injEq, Addr.mk.injEq, and_true] at he
  obtain ⟨rfl, rfl⟩ := he
  have x6 := gt_bd hr.2.1 6
  have h0' : (gt b 0 / 16 != 6) = false := by simpa using h0
  have h4' : (w16 b 4 != (b.length : Int) - 40) = false := by simpa using h4
  have i6 : (6 : Int) < (b.length : Int) := by omega
  have h6' : (gt b 6 != 44) = false := by simpa using h6
  have hl8 : ¬ ((b.length : Int) < 48) := by omega
  obtain ⟨bk', off', he, c41⟩ := hr.at 41 (by omega)
  simp only [Option.some.injEq, Addr.mk.injEq, and_true] at he
  obtain ⟨rfl, rfl⟩ := he
  have x41 := gt_bd hr.2.1 41
  obtain ⟨bk', off', he, c43⟩ := hr.at 43 (by omega)
  simp only [Option.some.injEq, Addr.mk.injEq, and_true] at he
  obtain ⟨rfl, rfl⟩ := he
  have x43 := gt_bd hr.2.1 43
  obtain ⟨bk', off', he, c40⟩ := hr.at 40 (by omega)
  simp only [Option.some.injEq, Addr.mk.injEq, and_true] at he
  obtain ⟨rfl, rfl⟩ := he
  have x40 := gt_bd hr.2.1 40
  have i41 : (41 : Int) < (b.length : Int) := by omega
  have i43 : (43 : Int) < (b.length : Int) := by omega
  have i40 : (40 : Int) < (b.length : Int) := by omega
  have k41' : (gt b 41 != 0) = false := by simpa using k41
  have k43' : (gt b 43 % 8 / 2 != 0) = false := by simpa using k43
  have k40' : (gt b 40 == 44) = false := by simpa using k40
  have K42 : Hid (∀ W, Away [] w W → Calls Tryd.prog 81 #[.slice (some ⟨bk, off, none⟩) b.length cap, .int .i64 42] W fun E w' => E = .returned (.int .i64 (w16 b 42)) ∧ Away [] W w') := fun W h => rget8_c (some ⟨bk, off, none⟩) b cap 42 W (hr.on h) (by omega)
  have v42 : 0 ≤ w16 b 42 ∧ w16 b 42 ≤ 65535 := by have h1 := gt_bd hr.2.1 42; have h2 := gt_bd hr.2.1 43; have e : w16 b 42 = 256 * gt b 42 + gt b 43 := rfl; omega
  have n1 : ((b.length : Int) - 48) ≤ 65535 - w16 b 42 / 8 * 8 := by omega
  have m1 : (gt b 43 % 2 == 1) = false := by simpa using hm
  have o1 : ¬ (0 < w16 b 42 / 8 * 8) := by omega
  clear h4
  generalize gt b 0 = y0 at *
  generalize gt b 6 = y6 at *
  generalize gt b 41 = y41 at *
  generalize gt b 43 = y43 at *
  generalize gt b 40 = y40 at *
  have HC6 : Hid (∀ W, Away [] w W → W.cell? ⟨bk, off + 6, none⟩ = some (.int .u8 y6)) := fun W h => h.cell (by simp) c6
  have HC41 : Hid (∀ W, Away [] w W → W.cell? ⟨bk, off + 41, none⟩ = some (.int .u8 y41)) := fun W h => h.cell (by simp) c41
  have HC43 : Hid (∀ W, Away [] w W → W.cell? ⟨bk, off + 43, none⟩ = some (.int .u8 y43)) := fun W h => h.cell (by simp) c43
  have HC40 : Hid (∀ W, Away [] w W → W.cell? ⟨bk, off + 40, none⟩ = some (.int .u8 y40)) := fun W h => h.cell (by simp) c40
  generalize w16 b 4 = z4 at *
  generalize w16 b 42 = z42 at *
  have HA : Hid (Away [] w w) := Away.refl _ _
  clear hr
  go_enter Tryd.func43, Tryd.ntmps43
  go_wp2_with fail
  refine (K4.out _ HA.out).mono ?_
  rintro E w1 ⟨rfl, haw⟩
  replace HA := Lib.hid (HA.out.on haw)
  have d6 := HC6.out _ HA.out
  have d41 := HC41.out _ HA.out
  have d43 := HC43.out _ HA.out
  have d40 := HC40.out _ HA.out
  clear haw
  go_wp2_with fail
  refine (K42.out _ HA.out).mono ?_
  rintro E w2 ⟨rfl, haw⟩
  replace HA := Lib.hid (HA.out.on haw)
  clear d6 d41 d40 d43
  have d43 := HC43.out _ HA.out
  clear haw
  go_wp2_with fail
  go_ret
  exact ⟨rfl, HA.out⟩
theorem six_c (a : Option Addr) (b : List Int) (cap : Nat) (w : World) (hr : Row w a b) :
    Calls Tryd.prog 43 #[.slice a b.length cap] w fun E w' => E = .returned (.bool (decide ((S6.parse6 b).2 = 0))) ∧ Away [] w w' := by
  have hi := six_iff hr.2.1
  have no : ¬ SixP b → decide ((S6.parse6 b).2 = 0) = false := fun h => decide_eq_false (fun e => h (hi.1 e))
  have yes : SixP b → decide ((S6.parse6 b).2 = 0) = true := fun h => decide_eq_true (hi.2 h)
  by_cases h40 : 40 ≤ b.length
  · by_cases h0 : gt b 0 / 16 = 6
    · by_cases h4 : w16 b 4 = (b.length : Int) - 40
      · by_cases h6 : gt b 6 = 44
        · by_cases h48 : 48 ≤ b.length
          · by_cases k41 : gt b 41 = 0
            · by_cases k43 : gt b 43 % 8 / 2 = 0
              · by_cases k40 : gt b 40 = 44
                · rw [no (fun h => (h.2.2.2 h6).2.2.2.1 k40)]; exact six_h a b cap w hr h40 h0 h4 h6 h48 k41 k43 k40
                · by_cases hn : (b.length : Int) - 48 ≤ 65535 - w16 b 42 / 8 * 8
                  · by_cases hm : gt b 43 % 2 = 1
                    · by_cases h1 : b.length = 48
                      · rw [no (fun h => ((h.2.2.2 h6).2.2.2.2.2.1 hm).1 h1)]; exact six_j a b cap w hr h40 h0 h4 h6 h48 k41 k43 k40 hn hm h1
                      · by_cases h2 : (b.length - 48) % 8 = 0
                        · rw [yes ⟨h40, h0, h4, fun _ => ⟨h48, k41, k43, k40, hn, fun _ => ⟨h1, h2⟩, fun _ => h1⟩⟩]
                          by_cases ho : 0 < w16 b 42 / 8 * 8
                          · exact six_l a b cap w hr h40 h0 h4 h6 h48 k41 k43 k40 hn hm h1 h2 ho
                          · exact six_m a b cap w hr h40 h0 h4 h6 h48 k41 k43 k40 hn hm h1 h2 ho
                        · rw [no (fun h => h2 ((h.2.2.2 h6).2.2.2.2.2.1 hm).2)]; exact six_k a b cap w hr h40 h0 h4 h6 h48 k41 k43 k40 hn hm h1 h2
                    · by_cases ho : 0 < w16 b 42 / 8 * 8
                      · by_cases h1 : b.length = 48
                        · rw [no (fun h => (h.2.2.2 h6).2.2.2.2.2.2 ho h1)]; exact six_n a b cap w hr h40 h0 h4 h6 h48 k41 k43 k40 hn hm ho h1
                        · rw [yes ⟨h40, h0, h4, fun _ => ⟨h48, k41, k43, k40, hn, fun e => absurd e hm, fun _ => h1⟩⟩]; exact six_o a b cap w hr h40 h0 h4 h6 h48 k41 k43 k40 hn hm ho h1
                      · rw [yes ⟨h40, h0, h4, fun _ => ⟨h48, k41, k43, k40, hn, fun e => absurd e hm, fun e => absurd e ho⟩⟩]; exact six_p a b cap w hr h40 h0 h4 h6 h48 k41 k43 k40 hn hm ho
                  · rw [no (fun h => hn (h.2.2.2 h6).2.2.2.2.1)]; exact six_i a b cap w hr h40 h0 h4 h6 h48 k41 k43 k40 hn
              · rw [no (fun h => k43 (h.2.2.2 h6).2.2.1)]; exact six_g a b cap w hr h40 h0 h4 h6 h48 k41 k43
            · rw [no (fun h => k41 (h.2.2.2 h6).2.1)]; exact six_f a b cap w hr h40 h0 h4 h6 h48 k41
          · rw [no (fun h => h48 (h.2.2.2 h6).1)]; exact six_e a b cap w hr h40 h0 h4 h6 (by omega)
        · rw [yes ⟨h40, h0, h4, fun e => absurd e h6⟩]; exact six_d a b cap w hr h40 h0 h4 h6
      · rw [no (fun h => h4 h.2.2.1)]; exact six_cc a b cap w hr h40 h0 h4
    · rw [no (fun h => h0 h.2.1)]; exact six_b a b cap w hr h40 h0
  · rw [no (fun h => h40 h.1)]; exact six_a a b cap w hr (by omega)
#print axioms six_c
end Go.Proofs.YtbgpjhekohabiabDoor

namespace Go.Proofs.YtbgpjhekohabiabDoor
open Go.ChangeShapes Go.WideShapes Go.ChangeAt Go.RowKit Num
set_option linter.unusedVariables false
set_option maxHeartbeats 4000000
set_option maxRecDepth 100000

/-- A block of known cells. -/
def BoxC (w : World) (g : Nat) (t : TypeId) (cs : Array Value) : Prop := w.heap[g]? = some (.cells cs t (0, 0))
theorem BoxC.on {w w' : World} {g : Nat} {t : TypeId} {cs : Array Value} (h : BoxC w g t cs) (hw : Away [] w w') : BoxC w' g t cs := hw.keep (by simp) h
theorem BoxC.lt {w : World} {g : Nat} {t : TypeId} {cs : Array Value} (h : BoxC w g t cs) : g < w.heap.size := lt_of_block h
theorem BoxC.at {w : World} {g : Nat} {t : TypeId} {cs : Array Value} (h : BoxC w g t cs) (i : Nat) (v : Value) (hi : cs[i]? = some v) : w.cell? ⟨g, i, none⟩ = some v := by rw [cell_of_block h, hi]
theorem wpList_allocC (t : TypeId) (cs : Array Value) (hz0 : (Tryd.prog.info? t).bind (·.zero) = some (.agg cs)) {ops : Array Oper} {rest : List Oper} {o : Oper} {a : Act} {w : World} {Q : Exit → Act → World → Prop} (hg : o.guard = none) (ho : o.op = .alloc t)
    (h : ∀ k w1, w.heap.size ≤ k → BoxC w1 k t cs → Away [] w w1 → wpList Tryd.prog ops Q rest (a.put o.dst (.pointer (some ⟨k, 0, none⟩))) w1) : wpList Tryd.prog ops Q (o :: rest) a w := by
  have hz : (zeroValue t).run Tryd.prog w = .ok (.agg cs) w := by
    cases hi : Tryd.prog.info? t with
    | none => rw [hi] at hz0; simp at hz0
    | some i => rw [hi] at hz0; simp at hz0; simp [zeroValue, typeInfo, hi, hz0]
  refine wpList_plain hg fun K hK => ?_
  unfold Oper.wp execOp
  simp only [ho, Sem.run_bind, Instr.alloc, hz, newVar, newRow, run_newObj_alloc, Sem.run_pure, Result.andThen_ok]
  exact hK _ _ (h w.heap.size _ (Nat.le_refl _) (block_new _ _) ((Away.refl [] w).alloc _))
theorem wpList_storeC (t : TypeId) (cs cs' : Array Value) (n : Nat) (hinfo : (Tryd.prog.info? t).map (·.size) = some cs.size) (hs : cs.size = cs'.size) (hone : cs.all (·.oneCell') = true) {ops : Array Oper} {rest : List Oper} {o : Oper} {a : Act} {w : World} {Q : Exit → Act → World → Prop} (hw : Region.wanted o (yielded ops a.tmps) = true) (x y : Operand) (ho : o.op = .store t x y)
    (k : Nat) (hx : a.eval x = .pointer (some ⟨k, 0, none⟩)) (hy : a.eval y = .agg cs) (hb : BoxC w k t cs')
    (h : ∀ w1, BoxC w1 k t cs → Away [k] w w1 → wpList Tryd.prog ops Q rest (a.put o.dst undef) w1) : wpList Tryd.prog ops Q (o :: rest) a w :=
  BigFrame.wpList_want hw fun K hK => wp_store_row t x y ho k cs hx hy t cs' hb hinfo hs.symm hone (hK _ _ (h _ (by
    unfold BoxC at hb ⊢; simp [World.setRow, Array.getElem?_modify, hb]) ((Away.refl [k] w).setRow (.inl (by simp)) _)))
theorem wpList_newC (t : TypeId) (cs cs0 : Array Value) (hz0 : (Tryd.prog.info? t).bind (·.zero) = some (.agg cs0)) (hinfo : (Tryd.prog.info? t).map (·.size) = some cs.size) (hs : cs.size = cs0.size) (hone : cs.all (·.oneCell') = true) {ops : Array Oper} {rest : List Oper} {o o2 : Oper} {a : Act} {w : World} {Q : Exit → Act → World → Prop} (hg : o.guard = none) (ho : o.op = .alloc t) (hg2 : o2.guard = none) (x y : Operand) (ho2 : o2.op = .store t x y)
    (hx : ∀ k, (a.put o.dst (.pointer (some ⟨k, 0, none⟩))).eval x = .pointer (some ⟨k, 0, none⟩)) (hy : ∀ k, (a.put o.dst (.pointer (some ⟨k, 0, none⟩))).eval y = .agg cs)
    (h : ∀ k w1, w.heap.size ≤ k → BoxC w1 k t cs → Away [] w w1 → wpList Tryd.prog ops Q rest ((a.put o.dst (.pointer (some ⟨k, 0, none⟩))).put o2.dst undef) w1) : wpList Tryd.prog ops Q (o :: o2 :: rest) a w :=
  wpList_allocC t cs0 hz0 hg ho fun k w1 hg1 hb1 ha1 => wpList_storeC t cs cs0 0 hinfo hs hone (by simp [Region.wanted, hg2]) x y ho2 k (hx k) (hy k) hb1 fun w2 hb2 ha2 => h k w2 hg1 hb2 (ha1.next ha2 (fun x hx => .inr (by simp at hx; omega)))
theorem zero_4 : (Tryd.prog.info? 45).bind (·.zero) = some (.agg #[.int .i64 0, .int .i64 0, .int .i64 0, .int .i64 0]) := by kernel_rfl
theorem zero_20 : (Tryd.prog.info? 67).bind (·.zero) = some (.agg #[.int .i64 0, .int .i64 0, .int .i64 0, .int .i64 0, .int .i64 0, .int .i64 0, .int .i64 0, .int .i64 0, .int .i64 0, .int .i64 0, .int .i64 0, .int .i64 0, .int .i64 0, .int .i64 0, .int .i64 0, .int .i64 0, .int .i64 0, .int .i64 0, .int .i64 0, .int .i64 0]) := by kernel_rfl
theorem info_4 : (Tryd.prog.info? 45).map (·.size) = some 4 := by kernel_rfl
theorem info_20 : (Tryd.prog.info? 67).map (·.size) = some 20 := by kernel_rfl
def rowK (k : Nat) : Array Value := #[.int .i64 (ty4 k), .int .i64 (co4 k), .int .i64 (ty6 k), .int .i64 (co6 k)]
def all20 : Array Value := #[.int .i64 3, .int .i64 4, .int .i64 2, .int .i64 0, .int .i64 3, .int .i64 3, .int .i64 1, .int .i64 4, .int .i64 3, .int .i64 0, .int .i64 1, .int .i64 0, .int .i64 11, .int .i64 0, .int .i64 3, .int .i64 0, .int .i64 11, .int .i64 1, .int .i64 3, .int .i64 1]
theorem all20_one : all20.all (·.oneCell') = true := by
  simp only [Array.all_eq_true_iff_forall_mem]
  intro x hx
  simp [all20] at hx
  rcases hx with rfl | rfl | rfl | rfl | rfl | rfl | rfl | rfl | rfl | rfl | rfl | rfl | rfl | rfl | rfl | rfl | rfl | rfl | rfl | rfl <;> rfl
theorem rowK_one (k : Nat) : (rowK k).all (·.oneCell') = true := by
  simp only [Array.all_eq_true_iff_forall_mem]
  intro x hx
  simp [rowK] at hx
  rcases hx with rfl | rfl | rfl | rfl <;> rfl
end Go.Proofs.YtbgpjhekohabiabDoor

namespace Go.Proofs.YtbgpjhekohabiabDoor
open Go.ChangeShapes Go.WideShapes Go.ChangeAt Go.RowKit Num
set_option linter.unusedVariables false
set_option maxHeartbeats 8000000
set_option maxRecDepth 100000

theorem table_0 (w : World) : Calls Tryd.prog 16 #[.int .i64 0] w fun E w' => E = .returned (.agg (rowK 0)) ∧ Away [] w w' := by
  go_enter Tryd.func16, Tryd.ntmps16
  go_wp2_with (refine wpList_allocC 45 #[.int .i64 0, .int .i64 0, .int .i64 0, .int .i64 0] zero_4 rfl rfl ?_; refine Hid.out ?_)
  refine Lib.hid ?_
  intro g2 w1 hg2 hb haw
  have HA := Lib.hid haw; have HB := Lib.hid hb
  have hl2 := hb.lt
  clear hb haw
  go_wp2_with (refine wpList_newC 67 all20 #[.int .i64 0, .int .i64 0, .int .i64 0, .int .i64 0, .int .i64 0, .int .i64 0, .int .i64 0, .int .i64 0, .int .i64 0, .int .i64 0, .int .i64 0, .int .i64 0, .int .i64 0, .int .i64 0, .int .i64 0, .int .i64 0, .int .i64 0, .int .i64 0, .int .i64 0, .int .i64 0] zero_20 info_20 rfl all20_one rfl rfl rfl _ _ rfl (fun _ => rfl) (fun _ => rfl) ?_; refine Hid.out ?_)
  refine Lib.hid ?_
  intro g3 w2 hg3 hb haw
  replace HA := Lib.hid (HA.out.on haw); replace HB := Lib.hid (HB.out.on haw); have HC := Lib.hid hb
  clear hb haw
  have c0 : w2.cell? ⟨g3, 0, none⟩ = some (.int .i64 3) := HC.out.at 0 _ rfl
  have c1 : w2.cell? ⟨g3, 1, none⟩ = some (.int .i64 4) := HC.out.at 1 _ rfl
  have c2 : w2.cell? ⟨g3, 2, none⟩ = some (.int .i64 2) := HC.out.at 2 _ rfl
  have c3 : w2.cell? ⟨g3, 3, none⟩ = some (.int .i64 0) := HC.out.at 3 _ rfl
  go_wp2_with (refine wpList_storeC 45 (rowK 0) #[.int .i64 0, .int .i64 0, .int .i64 0, .int .i64 0] 4 info_4 rfl (rowK_one 0) rfl _ _ rfl g2 rfl rfl (by exact HB.out) ?_; refine Hid.out ?_)
  refine Lib.hid ?_
  intro w3 hb haw
  replace HA : Hid (Away [] w w3) := HA.out.next haw (fun x hx => .inr (by simp at hx; omega))
  have HD := Lib.hid hb
  clear hb haw
  go_wp2_with fail
  refine bodyPost_ret (results_cell_row rfl _ _ g2 45 (rowK 0) (0, 0) _ rfl HD.out Tryd.underlying45 rfl info_4) rfl ⟨rfl, HA.out⟩
end Go.Proofs.YtbgpjhekohabiabDoor

namespace Go.Proofs.YtbgpjhekohabiabDoor
open Go.ChangeShapes Go.WideShapes Go.ChangeAt Go.RowKit Num
set_option linter.unusedVariables false
set_option maxHeartbeats 8000000
set_option maxRecDepth 100000

theorem table_1 (w : World) : Calls Tryd.prog 16 #[.int .i64 1] w fun E w' => E = .returned (.agg (rowK 1)) ∧ Away [] w w' := by
  go_enter Tryd.func16, Tryd.ntmps16
  go_wp2_with (refine wpList_allocC 45 #[.int .i64 0, .int .i64 0, .int .i64 0, .int .i64 0] zero_4 rfl rfl ?_; refine Hid.out ?_)
  refine Lib.hid ?_
  intro g2 w1 hg2 hb haw
  have HA := Lib.hid haw; have HB := Lib.hid hb
  have hl2 := hb.lt
  clear hb haw
  go_wp2_with (refine wpList_newC 67 all20 #[.int .i64 0, .int .i64 0, .int .i64 0, .int .i64 0, .int .i64 0, .int .i64 0, .int .i64 0, .int .i64 0, .int .i64 0, .int .i64 0, .int .i64 0, .int .i64 0, .int .i64 0, .int .i64 0, .int .i64 0, .int .i64 0, .int .i64 0, .int .i64 0, .int .i64 0, .int .i64 0] zero_20 info_20 rfl all20_one rfl rfl rfl _ _ rfl (fun _ => rfl) (fun _ => rfl) ?_; refine Hid.out ?_)
  refine Lib.hid ?_
  intro g3 w2 hg3 hb haw
  replace HA := Lib.hid (HA.out.on haw); replace HB := Lib.hid (HB.out.on haw); have HC := Lib.hid hb
  clear hb haw
  have c0 : w2.cell? ⟨g3, 4, none⟩ = some (.int .i64 3) := HC.out.at 4 _ rfl
  have c1 : w2.cell? ⟨g3, 5, none⟩ = some (.int .i64 3) := HC.out.at 5 _ rfl
  have c2 : w2.cell? ⟨g3, 6, none⟩ = some (.int .i64 1) := HC.out.at 6 _ rfl
  have c3 : w2.cell? ⟨g3, 7, none⟩ = some (.int .i64 4) := HC.out.at 7 _ rfl
  go_wp2_with (refine wpList_storeC 45 (rowK 1) #[.int .i64 0, .int .i64 0, .int .i64 0, .int .i64 0] 4 info_4 rfl (rowK_one 1) rfl _ _ rfl g2 rfl rfl (by exact HB.out) ?_; refine Hid.out ?_)
  refine Lib.hid ?_
  intro w3 hb haw
  replace HA : Hid (Away [] w w3) := HA.out.next haw (fun x hx => .inr (by simp at hx; omega))
  have HD := Lib.hid hb
  clear hb haw
  go_wp2_with fail
  refine bodyPost_ret (results_cell_row rfl _ _ g2 45 (rowK 1) (0, 0) _ rfl HD.out Tryd.underlying45 rfl info_4) rfl ⟨rfl, HA.out⟩
end Go.Proofs.YtbgpjhekohabiabDoor

namespace Go.Proofs.YtbgpjhekohabiabDoor
open Go.ChangeShapes Go.WideShapes Go.ChangeAt Go.RowKit Num
set_option linter.unusedVariables false
set_option maxHeartbeats 8000000
set_option maxRecDepth 100000

theorem table_2 (w : World) : Calls Tryd.prog 16 #[.int .i64 2] w fun E w' => E = .returned (.agg (rowK 2)) ∧ Away [] w w' := by
  go_enter Tryd.func16, Tryd.ntmps16
  go_wp2_with (refine wpList_allocC 45 #[.int .i64 0, .int .i64 0, .int .i64 0, .int .i64 0] zero_4 rfl rfl ?_; refine Hid.out ?_)
  refine Lib.hid ?_
  intro g2 w1 hg2 hb haw
  have HA := Lib.hid haw; have HB := Lib.hid hb
  have hl2 := hb.lt
  clear hb haw
  go_wp2_with (refine wpList_newC 67 all20 #[.int .i64 0, .int .i64 0, .int .i64 0, .int .i64 0, .int .i64 0, .int .i64 0, .int .i64 0, .int .i64 0, .int .i64 0, .int .i64 0, .int .i64 0, .int .i64 0, .int .i64 0, .int .i64 0, .int .i64 0, .int .i64 0, .int .i64 0, .int .i64 0, .int .i64 0, .int .i64 0] zero_20 info_20 rfl all20_one rfl rfl rfl _ _ rfl (fun _ => rfl) (fun _ => rfl) ?_; refine Hid.out ?_)
  refine Lib.hid ?_
  intro g3 w2 hg3 hb haw
  replace HA := Lib.hid (HA.out.on haw); replace HB := Lib.hid (HB.out.on haw); have HC := Lib.hid hb
  clear hb haw
  have c0 : w2.cell? ⟨g3, 8, none⟩ = some (.int .i64 3) := HC.out.at 8 _ rfl
  have c1 : w2.cell? ⟨g3, 9, none⟩ = some (.int .i64 0) := HC.out.at 9 _ rfl
  have c2 : w2.cell? ⟨g3, 10, none⟩ = some (.int .i64 1) := HC.out.at 10 _ rfl
  have c3 : w2.cell? ⟨g3, 11, none⟩ = some (.int .i64 0) := HC.out.at 11 _ rfl
  go_wp2_with (refine wpList_storeC 45 (rowK 2) #[.int .i64 0, .int .i64 0, .int .i64 0, .int .i64 0] 4 info_4 rfl (rowK_one 2) rfl _ _ rfl g2 rfl rfl (by exact HB.out) ?_; refine Hid.out ?_)
  refine Lib.hid ?_
  intro w3 hb haw
  replace HA : Hid (Away [] w w3) := HA.out.next haw (fun x hx => .inr (by simp at hx; omega))
  have HD := Lib.hid hb
  clear hb haw
  go_wp2_with fail
  refine bodyPost_ret (results_cell_row rfl _ _ g2 45 (rowK 2) (0, 0) _ rfl HD.out Tryd.underlying45 rfl info_4) rfl ⟨rfl, HA.out⟩
end Go.Proofs.YtbgpjhekohabiabDoor

namespace Go.Proofs.YtbgpjhekohabiabDoor
open Go.ChangeShapes Go.WideShapes Go.ChangeAt Go.RowKit Num
set_option linter.unusedVariables false
set_option maxHeartbeats 8000000
set_option maxRecDepth 100000

theorem table_3 (w : World) : Calls Tryd.prog 16 #[.int .i64 3] w fun E w' => E = .returned (.agg (rowK 3)) ∧ Away [] w w' := by
  go_enter Tryd.func16, Tryd.ntmps16
  go_wp2_with (refine wpList_allocC 45 #[.int .i64 0, .int .i64 0, .int .i64 0, .int .i64 0] zero_4 rfl rfl ?_; refine Hid.out ?_)
  refine Lib.hid ?_
  intro g2 w1 hg2 hb haw
  have HA := Lib.hid haw; have HB := Lib.hid hb
  have hl2 := hb.lt
  clear hb haw
  go_wp2_with (refine wpList_newC 67 all20 #[.int .i64 0, .int .i64 0, .int .i64 0, .int .i64 0, .int .i64 0, .int .i64 0, .int .i64 0, .int .i64 0, .int .i64 0, .int .i64 0, .int .i64 0, .int .i64 0, .int .i64 0, .int .i64 0, .int .i64 0, .int .i64 0, .int .i64 0, .int .i64 0, .int .i64 0, .int .i64 0] zero_20 info_20 rfl all20_one rfl rfl rfl _ _ rfl (fun _ => rfl) (fun _ => rfl) ?_; refine Hid.out ?_)
  refine Lib.hid ?_
  intro g3 w2 hg3 hb haw
  replace HA := Lib.hid (HA.out.on haw); replace HB := Lib.hid (HB.out.on haw); have HC := Lib.hid hb
  clear hb haw
  have c0 : w2.cell? ⟨g3, 12, none⟩ = some (.int .i64 11) := HC.out.at 12 _ rfl
  have c1 : w2.cell? ⟨g3, 13, none⟩ = some (.int .i64 0) := HC.out.at 13 _ rfl
  have c2 : w2.cell? ⟨g3, 14, none⟩ = some (.int .i64 3) := HC.out.at 14 _ rfl
  have c3 : w2.cell? ⟨g3, 15, none⟩ = some (.int .i64 0) := HC.out.at 15 _ rfl
  go_wp2_with (refine wpList_storeC 45 (rowK 3) #[.int .i64 0, .int .i64 0, .int .i64 0, .int .i64 0] 4 info_4 rfl (rowK_one 3) rfl _ _ rfl g2 rfl rfl (by exact HB.out) ?_; refine Hid.out ?_)
  refine Lib.hid ?_
  intro w3 hb haw
  replace HA : Hid (Away [] w w3) := HA.out.next haw (fun x hx => .inr (by simp at hx; omega))
  have HD := Lib.hid hb
  clear hb haw
  go_wp2_with fail
  refine bodyPost_ret (results_cell_row rfl _ _ g2 45 (rowK 3) (0, 0) _ rfl HD.out Tryd.underlying45 rfl info_4) rfl ⟨rfl, HA.out⟩
end Go.Proofs.YtbgpjhekohabiabDoor

namespace Go.Proofs.YtbgpjhekohabiabDoor
open Go.ChangeShapes Go.WideShapes Go.ChangeAt Go.RowKit Num
set_option linter.unusedVariables false
set_option maxHeartbeats 8000000
set_option maxRecDepth 100000

theorem table_4 (w : World) : Calls Tryd.prog 16 #[.int .i64 4] w fun E w' => E = .returned (.agg (rowK 4)) ∧ Away [] w w' := by
  go_enter Tryd.func16, Tryd.ntmps16
  go_wp2_with (refine wpList_allocC 45 #[.int .i64 0, .int .i64 0, .int .i64 0, .int .i64 0] zero_4 rfl rfl ?_; refine Hid.out ?_)
  refine Lib.hid ?_
  intro g2 w1 hg2 hb haw
  have HA := Lib.hid haw; have HB := Lib.hid hb
  have hl2 := hb.lt
  clear hb haw
  go_wp2_with (refine wpList_newC 67 all20 #[.int .i64 0, .int .i64 0, .int .i64 0, .int .i64 0, .int .i64 0, .int .i64 0, .int .i64 0, .int .i64 0, .int .i64 0, .int .i64 0, .int .i64 0, .int .i64 0, .int .i64 0, .int .i64 0, .int .i64 0, .int .i64 0, .int .i64 0, .int .i64 0, .int .i64 0, .int .i64 0] zero_20 info_20 rfl all20_one rfl rfl rfl _ _ rfl (fun _ => rfl) (fun _ => rfl) ?_; refine Hid.out ?_)
  refine Lib.hid ?_
  intro g3 w2 hg3 hb haw
  replace HA := Lib.hid (HA.out.on haw); replace HB := Lib.hid (HB.out.on haw); have HC := Lib.hid hb
  clear hb haw
  have c0 : w2.cell? ⟨g3, 16, none⟩ = some (.int .i64 11) := HC.out.at 16 _ rfl
  have c1 : w2.cell? ⟨g3, 17, none⟩ = some (.int .i64 1) := HC.out.at 17 _ rfl
  have c2 : w2.cell? ⟨g3, 18, none⟩ = some (.int .i64 3) := HC.out.at 18 _ rfl
  have c3 : w2.cell? ⟨g3, 19, none⟩ = some (.int .i64 1) := HC.out.at 19 _ rfl
  go_wp2_with (refine wpList_storeC 45 (rowK 4) #[.int .i64 0, .int .i64 0, .int .i64 0, .int .i64 0] 4 info_4 rfl (rowK_one 4) rfl _ _ rfl g2 rfl rfl (by exact HB.out) ?_; refine Hid.out ?_)
  refine Lib.hid ?_
  intro w3 hb haw
  replace HA : Hid (Away [] w w3) := HA.out.next haw (fun x hx => .inr (by simp at hx; omega))
  have HD := Lib.hid hb
  clear hb haw
  go_wp2_with fail
  refine bodyPost_ret (results_cell_row rfl _ _ g2 45 (rowK 4) (0, 0) _ rfl HD.out Tryd.underlying45 rfl info_4) rfl ⟨rfl, HA.out⟩
end Go.Proofs.YtbgpjhekohabiabDoor

namespace Go.Proofs.YtbgpjhekohabiabDoor
open Go.ChangeShapes Go.WideShapes Go.ChangeAt Go.RowKit Num
set_option linter.unusedVariables false
set_option maxHeartbeats 4000000
set_option maxRecDepth 100000

theorem table_c (k : Nat) (w : World) (hk : k < 5) : Calls Tryd.prog 16 #[.int .i64 (k : Int)] w fun E w' => E = .returned (.agg (rowK k)) ∧ Away [] w w' := by
  obtain rfl | rfl | rfl | rfl | rfl : k = 0 ∨ k = 1 ∨ k = 2 ∨ k = 3 ∨ k = 4 := by omega
  · exact table_0 w
  · exact table_1 w
  · exact table_2 w
  · exact table_3 w
  · exact table_4 w
#print axioms table_c
/-- The document's error about bytes. -/
def rErrP (b : List Int) (mtu t4 c4 t6 c6 : Int) : Mg × Int :=
  if 0 ≤ mtu ∧ mtu ≤ 65535 then
    if (parse4 b).2 = 0 then (⟨4, t4, c4, mtu, b.take (endP b)⟩, 0) else if (S6.parse6 b).2 = 0 then (⟨6, t6, c6, mtu, b.take (min b.length 1232)⟩, 0) else (zeroMg, 1)
  else (zeroMg, 1)
theorem errs_ref (b : List Int) (mtu : Int) (k : Nat) : errsP b mtu k = rErrP b (if k = 0 then mtu else 0) (ty4 k) (co4 k) (ty6 k) (co6 k) := by
  unfold errsP
  by_cases hk : k = 0
  · subst hk
    rw [if_pos rfl, if_pos rfl]
    unfold bigP rErrP aboutP
    by_cases hm : 0 ≤ mtu ∧ mtu ≤ 65535
    · rw [if_pos hm, if_pos hm]
      by_cases h4 : (parse4 b).2 = 0
      · rw [if_pos h4]; simp [h4]
      · rw [if_neg h4]
        by_cases h6 : (S6.parse6 b).2 = 0
        · rw [if_pos h6]; simp [h4, h6]
        · rw [if_neg h6]; simp [h4, h6, zeroMg]
    · rw [if_neg hm, if_neg hm]
  · rw [if_neg hk, if_neg hk]
    unfold rErrP aboutP
    rw [if_pos (⟨by omega, by omega⟩ : (0 : Int) ≤ 0 ∧ (0 : Int) ≤ 65535)]
theorem rerror_lo (a : Option Addr) (b : List Int) (cap : Nat) (mtu t4 c4 t6 c6 : Int) (w : World) (hr : Row w a b) (hcap : b.length ≤ cap) (hn : a = none → cap = 0) (h : mtu < 0) :
    Calls Tryd.prog 17 #[.slice a b.length cap, .int .i64 mtu, .int .i64 t4, .int .i64 c4, .int .i64 t6, .int .i64 c6] w fun E w' => MParseOut w (zeroMg, 1) E w' := by
  have hlen := hr.1
  have HR := Lib.hid hr
  have HW4 := Lib.hid (parse4_wf hr.2.1 hr.1)
  clear hr
  go_enter Tryd.func17, Tryd.ntmps17
  go_wp2_with (refine wpList_allocM rfl rfl ?_; refine Hid.out ?_)
  refine Lib.hid ?_
  intro g12 w1 hg12 hb haw
  have HA := Lib.hid haw; have HB := Lib.hid hb
  have hl12 := hb.lt
  clear hb haw
  go_wp2_with (refine wpList_storeM rfl _ _ rfl g12 rfl zeroMg (.slice none 0 0) rfl zeroMg (.slice none 0 0) (by exact HB.out) rfl ?_; refine Hid.out ?_)
  refine Lib.hid ?_
  intro wz hb haw
  have HZ := Lib.hid hb
  replace HA : Hid (Away [] w wz) := HA.out.next haw (fun x hx => .inr (by simp at hx; omega))
  clear hb haw
  go_wp2_with fail
  refine bodyPost_ret (resultMt rfl _ _ _ _ _ _ rfl rfl HZ.out) rfl ⟨_, rfl, Owns.nil _, New.nil _, HA.out⟩
theorem rerror_hi (a : Option Addr) (b : List Int) (cap : Nat) (mtu t4 c4 t6 c6 : Int) (w : World) (hr : Row w a b) (hcap : b.length ≤ cap) (hn : a = none → cap = 0) (h0 : 0 ≤ mtu) (h : 65535 < mtu) :
    Calls Tryd.prog 17 #[.slice a b.length cap, .int .i64 mtu, .int .i64 t4, .int .i64 c4, .int .i64 t6, .int .i64 c6] w fun E w' => MParseOut w (zeroMg, 1) E w' := by
  have hlen := hr.1
  have HR := Lib.hid hr
  have HW4 := Lib.hid (parse4_wf hr.2.1 hr.1)
  clear hr
  go_enter Tryd.func17, Tryd.ntmps17
  go_wp2_with (refine wpList_allocM rfl rfl ?_; refine Hid.out ?_)
  refine Lib.hid ?_
  intro g12 w1 hg12 hb haw
  have HA := Lib.hid haw; have HB := Lib.hid hb
  have hl12 := hb.lt
  clear hb haw
  go_wp2_with (refine wpList_storeM rfl _ _ rfl g12 rfl zeroMg (.slice none 0 0) rfl zeroMg (.slice none 0 0) (by exact HB.out) rfl ?_; refine Hid.out ?_)
  refine Lib.hid ?_
  intro wz hb haw
  have HZ := Lib.hid hb
  replace HA : Hid (Away [] w wz) := HA.out.next haw (fun x hx => .inr (by simp at hx; omega))
  clear hb haw
  go_wp2_with fail
  refine bodyPost_ret (resultMt rfl _ _ _ _ _ _ rfl rfl HZ.out) rfl ⟨_, rfl, Owns.nil _, New.nil _, HA.out⟩
theorem rerror_four (a : Option Addr) (b : List Int) (cap : Nat) (mtu t4 c4 t6 c6 : Int) (w : World) (hr : Row w a b) (hcap : b.length ≤ cap) (hn : a = none → cap = 0) (h0 : 0 ≤ mtu) (h1 : mtu ≤ 65535) (h4 : (parse4 b).2 = 0) :
    Calls Tryd.prog 17 #[.slice a b.length cap, .int .i64 mtu, .int .i64 t4, .int .i64 c4, .int .i64 t6, .int .i64 c6] w fun E w' => MParseOut w (⟨4, t4, c4, mtu, b.take (endP b)⟩, 0) E w' := by
  have hlen := hr.1
  have HR := Lib.hid hr
  have HW4 := Lib.hid (parse4_wf hr.2.1 hr.1)
  obtain ⟨hE, -, hpe, hf, hv⟩ := parse4_ok (b := b) (p := (parse4 b).1) (by rw [← h4])
  obtain ⟨h20, -, hk20, hkl, -, -⟩ := headE_ok hE
  have hpd : (parse4 b).1.d.length = b.length - headN b := by rw [hpe]; show (b.drop (headN b)).length = _; simp
  have h40 : (parse4 b).2 = 0 := h4
  have HPD := Lib.hid hpd
  clear hE hpe hf hv hpd
  clear hr
  go_enter Tryd.func17, Tryd.ntmps17
  go_wp2_with (refine wpList_allocM rfl rfl ?_; refine Hid.out ?_)
  refine Lib.hid ?_
  intro g12 w1 hg12 hb haw
  have HA := Lib.hid haw; have HB := Lib.hid hb
  have hl12 := hb.lt
  clear hb haw
  go_wp2_with fail
  refine (rparse_c a b _ cap _ rfl hcap hn (by exact HR.out.on HA.out)).mono ?_
  rintro E w2 ⟨ov, dv, rfl, hoo, hdd, haw⟩
  have hs1 := HA.out.size
  replace HA := Lib.hid (HA.out.on haw); replace HB := Lib.hid (HB.out.on haw)
  obtain ⟨oa, on, oc, rfl⟩ := hoo.shp
  obtain ⟨da, dc, hdv, -, -⟩ := hdd.slc
  subst hdv
  clear hoo hdd haw
  generalize hp : (parse4 b).1 = p at *
  go_wp2_with (refine wpList_new28 rfl rfl rfl _ _ rfl p (.slice oa on oc) (.slice da p.d.length dc) (fun _ => rfl) (fun _ => rfl) HW4.out.ad rfl rfl ?_; refine Hid.out ?_)
  refine Lib.hid ?_
  intro g14 w3 hg14 hb haw
  have hs2 := HA.out.size
  replace HA := Lib.hid (HA.out.on haw); replace HB := Lib.hid (HB.out.on haw); have HP := Lib.hid hb
  clear hb haw
  have cd := (HP.out.cells HW4.out.ad).d
  generalize hN : headN b = N at *
  have hpd := HPD.out
  by_cases hle : p.d.length < 8
  · have HEN : Hid (endP b = b.length) := by show _ = _; unfold endP; rw [hN]; exact Nat.min_eq_left (by omega)
    have hle' : (p.d.length : Int) < 8 := by omega
    have hle2 : ¬ ((8 : Int) ≤ (p.d.length : Int)) := by omega
    have hsum : (b.length : Int) - (p.d.length : Int) + (p.d.length : Int) = ((b.length : Nat) : Int) := by omega
    have s1 := slice_h a b.length cap b.length ((b.length : Nat) : Int) rfl (by omega)
    clear hpd
    go_upto_region 6 with fail
    clear cd
    go_wp2_with fail
    clear s1
    refine (rown8_c a (b.take b.length) _ cap _ (by simp) hn (by exact (HR.out.on HA.out).head _)).mono ?_
    rintro E w6 ⟨v, rfl, hv, hnv, haw⟩
    have hs6 := HA.out.size
    have hl46 := HB.out.lt
    replace HA := Lib.hid (HA.out.on haw); replace HB := Lib.hid (HB.out.on haw)
    have HV := Lib.hid hv; have HN := Lib.hid hnv
    clear hv hnv haw
    obtain ⟨va, vn, vc, rfl⟩ := HV.out.shp
    go_wp2_with (refine wpList_storeM rfl _ _ rfl g12 rfl ⟨4, t4, c4, mtu, b.take b.length⟩ (.slice va vn vc) rfl zeroMg (.slice none 0 0) (by exact HB.out) rfl ?_; refine Hid.out ?_)
    refine Lib.hid ?_
    intro wz hb haw
    have HZ := Lib.hid hb
    replace HA : Hid (Away [] w wz) := HA.out.next haw (fun x hx => .inr (by simp at hx; omega))
    replace HV := Lib.hid (HV.out.away haw (fun k hk => by have := HN.out k hk; simp; omega))
    clear hb haw
    go_wp2_with fail
    refine bodyPost_ret (resultMt rfl _ _ _ _ _ _ rfl rfl HZ.out) rfl ?_
    rw [HEN.out]
    exact ⟨_, rfl, HV.out, fun k hk => by have := HN.out k hk; omega, HA.out⟩
  · have HEN : Hid (endP b = (N + 8)) := by show _ = _; unfold endP; rw [hN]; exact Nat.min_eq_right (by omega)
    have hle' : ¬ (p.d.length : Int) < 8 := by omega
    have hle2 : (8 : Int) ≤ (p.d.length : Int) := by omega
    have hsum : (b.length : Int) - (p.d.length : Int) + 8 = (((N + 8) : Nat) : Int) := by omega
    have s1 := slice_h a b.length cap (N + 8) (((N + 8) : Nat) : Int) rfl (by omega)
    clear hpd
    go_upto_region 6 with fail
    clear cd
    go_wp2_with fail
    clear s1
    refine (rown8_c a (b.take (N + 8)) _ cap _ (by simp; omega) hn (by exact (HR.out.on HA.out).head _)).mono ?_
    rintro E w6 ⟨v, rfl, hv, hnv, haw⟩
    have hs6 := HA.out.size
    have hl46 := HB.out.lt
    replace HA := Lib.hid (HA.out.on haw); replace HB := Lib.hid (HB.out.on haw)
    have HV := Lib.hid hv; have HN := Lib.hid hnv
    clear hv hnv haw
    obtain ⟨va, vn, vc, rfl⟩ := HV.out.shp
    go_wp2_with (refine wpList_storeM rfl _ _ rfl g12 rfl ⟨4, t4, c4, mtu, b.take (N + 8)⟩ (.slice va vn vc) rfl zeroMg (.slice none 0 0) (by exact HB.out) rfl ?_; refine Hid.out ?_)
    refine Lib.hid ?_
    intro wz hb haw
    have HZ := Lib.hid hb
    replace HA : Hid (Away [] w wz) := HA.out.next haw (fun x hx => .inr (by simp at hx; omega))
    replace HV := Lib.hid (HV.out.away haw (fun k hk => by have := HN.out k hk; simp; omega))
    clear hb haw
    go_wp2_with fail
    refine bodyPost_ret (resultMt rfl _ _ _ _ _ _ rfl rfl HZ.out) rfl ?_
    rw [HEN.out]
    exact ⟨_, rfl, HV.out, fun k hk => by have := HN.out k hk; omega, HA.out⟩
theorem rerror_six (a : Option Addr) (b : List Int) (cap : Nat) (mtu t4 c4 t6 c6 : Int) (w : World) (hr : Row w a b) (hcap : b.length ≤ cap) (hn : a = none → cap = 0) (h0 : 0 ≤ mtu) (h1 : mtu ≤ 65535) (h4 : (parse4 b).2 ≠ 0) (h6 : (S6.parse6 b).2 = 0) :
    Calls Tryd.prog 17 #[.slice a b.length cap, .int .i64 mtu, .int .i64 t4, .int .i64 c4, .int .i64 t6, .int .i64 c6] w fun E w' => MParseOut w (⟨6, t6, c6, mtu, b.take (min b.length 1232)⟩, 0) E w' := by
  have hlen := hr.1
  have HR := Lib.hid hr
  have HW4 := Lib.hid (parse4_wf hr.2.1 hr.1)
  obtain ⟨e4, he4⟩ : ∃ e, e = (parse4 b).2 := ⟨_, rfl⟩
  have h4' : (e4 == 0) = false := by rw [he4]; simpa using h4
  have K6 : Hid (∀ W, Away [] w W → Calls Tryd.prog 43 #[.slice a b.length cap] W fun E w' => E = .returned (.bool true) ∧ Away [] W w') := fun W h => by have := six_c a b cap W (hr.on h); rwa [decide_eq_true h6] at this
  clear hr
  go_enter Tryd.func17, Tryd.ntmps17
  go_wp2_with (refine wpList_allocM rfl rfl ?_; refine Hid.out ?_)
  refine Lib.hid ?_
  intro g12 w1 hg12 hb haw
  have HA := Lib.hid haw; have HB := Lib.hid hb
  have hl12 := hb.lt
  clear hb haw
  go_wp2_with fail
  refine (rparse_c a b _ cap _ rfl hcap hn (by exact HR.out.on HA.out)).mono ?_
  rintro E w2 ⟨ov, dv, rfl, hoo, hdd, haw⟩
  have hs1 := HA.out.size
  replace HA := Lib.hid (HA.out.on haw); replace HB := Lib.hid (HB.out.on haw)
  obtain ⟨oa, on, oc, rfl⟩ := hoo.shp
  obtain ⟨da, dc, hdv, -, -⟩ := hdd.slc
  subst hdv
  clear hoo hdd haw
  generalize hp : (parse4 b).1 = p at *
  go_wp2_with (refine wpList_new28 rfl rfl rfl _ _ rfl p (.slice oa on oc) (.slice da p.d.length dc) (fun _ => rfl) (fun _ => rfl) HW4.out.ad rfl rfl ?_; refine Hid.out ?_)
  refine Lib.hid ?_
  intro g14 w3 hg14 hb haw
  have hs2 := HA.out.size
  replace HA := Lib.hid (HA.out.on haw); replace HB := Lib.hid (HB.out.on haw); have HP := Lib.hid hb
  clear hb haw
  rw [← he4]
  clear he4 h4
  go_wp2_with fail
  refine (K6.out _ HA.out).mono ?_
  rintro E w4 ⟨rfl, haw⟩
  replace HA := Lib.hid (HA.out.on haw); replace HB := Lib.hid (HB.out.on haw)
  clear haw HP K6
  by_cases hle : b.length ≤ 1232
  · have HEN : Hid (min b.length 1232 = b.length) := Nat.min_eq_left hle
    have hle' : (b.length : Int) ≤ 1232 := by omega
    have hle2 : ¬ (1232 < (b.length : Int)) := by omega
    have s1 := slice_h a b.length cap b.length ((b.length : Int)) rfl (by omega)
    go_wp2_with fail
    clear s1
    refine (rown8_c a (b.take b.length) _ cap _ (by simp) hn (by exact (HR.out.on HA.out).head _)).mono ?_
    rintro E w6 ⟨v, rfl, hv, hnv, haw⟩
    have hs6 := HA.out.size
    have hl46 := HB.out.lt
    replace HA := Lib.hid (HA.out.on haw); replace HB := Lib.hid (HB.out.on haw)
    have HV := Lib.hid hv; have HN := Lib.hid hnv
    clear hv hnv haw
    obtain ⟨va, vn, vc, rfl⟩ := HV.out.shp
    go_wp2_with (refine wpList_storeM rfl _ _ rfl g12 rfl ⟨6, t6, c6, mtu, b.take b.length⟩ (.slice va vn vc) rfl zeroMg (.slice none 0 0) (by exact HB.out) rfl ?_; refine Hid.out ?_)
    refine Lib.hid ?_
    intro wz hb haw
    have HZ := Lib.hid hb
    replace HA : Hid (Away [] w wz) := HA.out.next haw (fun x hx => .inr (by simp at hx; omega))
    replace HV := Lib.hid (HV.out.away haw (fun k hk => by have := HN.out k hk; simp; omega))
    clear hb haw
    go_wp2_with fail
    refine bodyPost_ret (resultMt rfl _ _ _ _ _ _ rfl rfl HZ.out) rfl ?_
    rw [HEN.out]
    exact ⟨_, rfl, HV.out, fun k hk => by have := HN.out k hk; omega, HA.out⟩
  · have HEN : Hid (min b.length 1232 = 1232) := Nat.min_eq_right (by omega)
    have hle' : ¬ (b.length : Int) ≤ 1232 := by omega
    have hle2 : 1232 < (b.length : Int) := by omega
    have s1 := slice_h a b.length cap 1232 (1232) rfl (by omega)
    go_wp2_with fail
    clear s1
    refine (rown8_c a (b.take 1232) _ cap _ (by simp; omega) hn (by exact (HR.out.on HA.out).head _)).mono ?_
    rintro E w6 ⟨v, rfl, hv, hnv, haw⟩
    have hs6 := HA.out.size
    have hl46 := HB.out.lt
    replace HA := Lib.hid (HA.out.on haw); replace HB := Lib.hid (HB.out.on haw)
    have HV := Lib.hid hv; have HN := Lib.hid hnv
    clear hv hnv haw
    obtain ⟨va, vn, vc, rfl⟩ := HV.out.shp
    go_wp2_with (refine wpList_storeM rfl _ _ rfl g12 rfl ⟨6, t6, c6, mtu, b.take 1232⟩ (.slice va vn vc) rfl zeroMg (.slice none 0 0) (by exact HB.out) rfl ?_; refine Hid.out ?_)
    refine Lib.hid ?_
    intro wz hb haw
    have HZ := Lib.hid hb
    replace HA : Hid (Away [] w wz) := HA.out.next haw (fun x hx => .inr (by simp at hx; omega))
    replace HV := Lib.hid (HV.out.away haw (fun k hk => by have := HN.out k hk; simp; omega))
    clear hb haw
    go_wp2_with fail
    refine bodyPost_ret (resultMt rfl _ _ _ _ _ _ rfl rfl HZ.out) rfl ?_
    rw [HEN.out]
    exact ⟨_, rfl, HV.out, fun k hk => by have := HN.out k hk; omega, HA.out⟩
theorem rerror_none (a : Option Addr) (b : List Int) (cap : Nat) (mtu t4 c4 t6 c6 : Int) (w : World) (hr : Row w a b) (hcap : b.length ≤ cap) (hn : a = none → cap = 0) (h0 : 0 ≤ mtu) (h1 : mtu ≤ 65535) (h4 : (parse4 b).2 ≠ 0) (h6 : (S6.parse6 b).2 ≠ 0) :
    Calls Tryd.prog 17 #[.slice a b.length cap, .int .i64 mtu, .int .i64 t4, .int .i64 c4, .int .i64 t6, .int .i64 c6] w fun E w' => MParseOut w (zeroMg, 1) E w' := by
  have hlen := hr.1
  have HR := Lib.hid hr
  have HW4 := Lib.hid (parse4_wf hr.2.1 hr.1)
  obtain ⟨e4, he4⟩ : ∃ e, e = (parse4 b).2 := ⟨_, rfl⟩
  have h4' : (e4 == 0) = false := by rw [he4]; simpa using h4
  have K6 : Hid (∀ W, Away [] w W → Calls Tryd.prog 43 #[.slice a b.length cap] W fun E w' => E = .returned (.bool false) ∧ Away [] W w') := fun W h => by have := six_c a b cap W (hr.on h); rwa [decide_eq_false h6] at this
  clear hr
  go_enter Tryd.func17, Tryd.ntmps17
  go_wp2_with (refine wpList_allocM rfl rfl ?_; refine Hid.out ?_)
  refine Lib.hid ?_
  intro g12 w1 hg12 hb haw
  have HA := Lib.hid haw; have HB := Lib.hid hb
  have hl12 := hb.lt
  clear hb haw
  go_wp2_with fail
  refine (rparse_c a b _ cap _ rfl hcap hn (by exact HR.out.on HA.out)).mono ?_
  rintro E w2 ⟨ov, dv, rfl, hoo, hdd, haw⟩
  have hs1 := HA.out.size
  replace HA := Lib.hid (HA.out.on haw); replace HB := Lib.hid (HB.out.on haw)
  obtain ⟨oa, on, oc, rfl⟩ := hoo.shp
  obtain ⟨da, dc, hdv, -, -⟩ := hdd.slc
  subst hdv
  clear hoo hdd haw
  generalize hp : (parse4 b).1 = p at *
  go_wp2_with (refine wpList_new28 rfl rfl rfl _ _ rfl p (.slice oa on oc) (.slice da p.d.length dc) (fun _ => rfl) (fun _ => rfl) HW4.out.ad rfl rfl ?_; refine Hid.out ?_)
  refine Lib.hid ?_
  intro g14 w3 hg14 hb haw
  have hs2 := HA.out.size
  replace HA := Lib.hid (HA.out.on haw); replace HB := Lib.hid (HB.out.on haw); have HP := Lib.hid hb
  clear hb haw
  rw [← he4]
  clear he4 h4
  go_wp2_with fail
  refine (K6.out _ HA.out).mono ?_
  rintro E w4 ⟨rfl, haw⟩
  replace HA := Lib.hid (HA.out.on haw); replace HB := Lib.hid (HB.out.on haw)
  clear haw HP K6
  go_wp2_with (refine wpList_storeM rfl _ _ rfl g12 rfl zeroMg (.slice none 0 0) rfl zeroMg (.slice none 0 0) (by exact HB.out) rfl ?_; refine Hid.out ?_)
  refine Lib.hid ?_
  intro wz hb haw
  have HZ := Lib.hid hb
  replace HA : Hid (Away [] w wz) := HA.out.next haw (fun x hx => .inr (by simp at hx; omega))
  clear hb haw
  go_wp2_with fail
  refine bodyPost_ret (resultMt rfl _ _ _ _ _ _ rfl rfl HZ.out) rfl ⟨_, rfl, Owns.nil _, New.nil _, HA.out⟩
theorem rerror_c (a : Option Addr) (b : List Int) (cap : Nat) (mtu t4 c4 t6 c6 : Int) (w : World) (hr : Row w a b) (hcap : b.length ≤ cap) (hn : a = none → cap = 0) :
    Calls Tryd.prog 17 #[.slice a b.length cap, .int .i64 mtu, .int .i64 t4, .int .i64 c4, .int .i64 t6, .int .i64 c6] w fun E w' => MParseOut w (rErrP b mtu t4 c4 t6 c6) E w' := by
  unfold rErrP
  by_cases h0 : 0 ≤ mtu
  · by_cases h1 : mtu ≤ 65535
    · rw [if_pos ⟨h0, h1⟩]
      by_cases h4 : (parse4 b).2 = 0
      · rw [if_pos h4]; exact rerror_four a b cap mtu t4 c4 t6 c6 w hr hcap hn h0 h1 h4
      · rw [if_neg h4]
        by_cases h6 : (S6.parse6 b).2 = 0
        · rw [if_pos h6]; exact rerror_six a b cap mtu t4 c4 t6 c6 w hr hcap hn h0 h1 h4 h6
        · rw [if_neg h6]; exact rerror_none a b cap mtu t4 c4 t6 c6 w hr hcap hn h0 h1 h4 h6
    · rw [if_neg (fun h => h1 h.2)]; exact rerror_hi a b cap mtu t4 c4 t6 c6 w hr hcap hn h0 (by omega)
  · rw [if_neg (fun h => h0 h.1)]; exact rerror_lo a b cap mtu t4 c4 t6 c6 w hr hcap hn (by omega)
#print axioms rerror_c
end Go.Proofs.YtbgpjhekohabiabDoor

namespace Go.Proofs.YtbgpjhekohabiabDoor
open Go.ChangeShapes Go.WideShapes Go.ChangeAt Go.RowKit Go.Deep Num
set_option linter.unusedVariables false
set_option maxHeartbeats 8000000
set_option maxRecDepth 100000

theorem step_appW {ops : Array Oper} {o : Oper} {a : Act} {w : World} {K : Act → World → Prop} {Q : Exit → Act → World → Prop} {E : Prop} (hw : Region.wanted o (yielded ops a.tmps) = true) (s x : Operand)
    (hop : o.op = .call { callee := .builtin .append, args := #[s, x], argTypes := #[26, 26] }) (v : Value) (l m : List Int) (hs : a.eval s = v) (hown : Owns w v l)
    (ad : Addr) (n c : Nat) (hx : a.eval x = .slice (some ad) n c) (hn : m.length = n) (hm : ∀ j u, (m.map (Value.int .u8))[j]? = some u → w.cell? (ad.add j) = some u) (hlen : l.length + n ≤ 140737488355328)
    (hK : ∀ v' w', Owns w' v' (l ++ m) → w.grownBy w' v.ownBlock → Moved w v v' → K (a.put o.dst v') w') :
    if Region.wanted o (yielded ops a.tmps) = true then Oper.wp Tryd.prog o a w K Q else E := by
  rw [if_pos hw]
  obtain ⟨v', w', hrun, r1, r2, r3⟩ := run_appB o.type w v l m hown ad n c hn hm hlen
  unfold Oper.wp
  simp [execOp, hop, resolve, invoke, builtin, hs, hx, hrun, Result.andThen]
  exact hK v' w' r1 r2 r3
/-- An append that may stand behind a guard. -/
theorem wpList_appG {w : World} {ops : Array Oper} {rest : List Oper} {o : Oper} {a : Act} {Q : Exit → Act → World → Prop} (hw : Region.wanted o (yielded ops a.tmps) = true) (s x : Operand)
    (ho : o.op = .call { callee := .builtin .append, args := #[s, x], argTypes := #[26, 26] }) (v : Value) (l m : List Int) (hs : a.eval s = v) (hown : Owns w v l)
    (ad : Addr) (n c : Nat) (hx : a.eval x = .slice (some ad) n c) (hn : m.length = n) (hm : ∀ j u, (m.map (Value.int .u8))[j]? = some u → w.cell? (ad.add j) = some u) (hlen : l.length + n ≤ 140737488355328)
    (h : ∀ v' w', Owns w' v' (l ++ m) → w.grownBy w' v.ownBlock → Moved w v v' → wpList Tryd.prog ops Q rest (a.put o.dst v') w') : wpList Tryd.prog ops Q (o :: rest) a w := by
  obtain ⟨v', w', hrun, r1, r2, r3⟩ := run_appB o.type w v l m hown ad n c hn hm hlen
  refine BigFrame.wpList_want hw fun K hK => ?_
  unfold Oper.wp
  simp [execOp, ho, resolve, invoke, builtin, hs, hx, hrun, Result.andThen]
  exact hK _ _ (h v' w' r1 r2 r3)
/-- The two marks. -/
def mk2 : List Int := [165, 166]
theorem mk2_bytes : Bytes mk2 := (Bytes.nil.cons (by omega) (by omega)).cons (by omega) (by omega)
theorem Owns.front {w : World} {g n c : Nat} {l : List Int} (h : Owns w (.slice (some ⟨g, 0, none⟩) n c) (l ++ mk2)) (hn : n = l.length + 2) (hb : Bytes l) (hl : l.length + 2 ≤ 140737488355328) (hc : n ≤ c) : Sl w (.slice (some ⟨g, 0, none⟩) l.length c) l := by
  have hr := h.row' (by simp [mk2]; omega) (hb.app mk2_bytes)
  have := hr.head l.length
  rw [List.take_left] at this
  exact ⟨_, _, rfl, by omega, by simp, this⟩
theorem full_sl {w : World} {g c : Nat} {l : List Int} (h : Owns w (.slice (some ⟨g, 0, none⟩) (l.length + 2) c) (l ++ mk2)) (hb : Bytes l) (hl : l.length + 2 ≤ 140737488355328) (hc : l.length + 2 ≤ c) : Sl w (.slice (some ⟨g, 0, none⟩) (l.length + 2) c) (l ++ mk2) := by
  have hn : (l ++ mk2).length = l.length + 2 := by simp [mk2]
  exact ⟨_, _, by rw [hn], by omega, by simp, h.row' (by omega) (hb.app mk2_bytes)⟩
theorem errs_bytes {b : List Int} (hb : Bytes b) (mtu : Int) (k : Nat) : Bytes (errsP b mtu k).1.d ∧ (errsP b mtu k).1.d.length ≤ b.length := by
  have ha : ∀ k, Bytes (aboutP b k).1.d ∧ (aboutP b k).1.d.length ≤ b.length := fun k => by
    unfold aboutP
    split
    · exact ⟨hb.take _, by show (b.take _).length ≤ _; rw [List.length_take]; omega⟩
    · split
      · exact ⟨hb.take _, by show (b.take _).length ≤ _; rw [List.length_take]; omega⟩
      · exact ⟨Bytes.nil, by simp [zeroMg]⟩
  unfold errsP
  split
  · unfold bigP
    split
    · exact ha 0
    · exact ⟨Bytes.nil, by simp [zeroMg]⟩
  · exact ha k
namespace icmpQuotes
theorem walk (a : Option Addr) (b : List Int) (cap : Nat) (mtu : Int) (W : World) (hg : Glob W) (hbl : b.length ≤ cap) (hbr : Row W a b) (hbn : a = none → cap = 0) (hbc : cap ≤ 140737488351232) (hmt : (Lit.int .i64 mtu).wf = true) :
    Calls Tryd.prog 5 #[.slice a b.length cap, .int .i64 mtu] W fun e W' => e = .returned (.bool true) ∧ Below W.heap.size W W' := by
  have HR := Lib.hid hbr
  have HG := Lib.hid hg
  have HA : Hid (Away [] W W) := Away.refl _ _
  have HBY := Lib.hid hbr.2.1
  obtain ⟨mt0, mt1⟩ := wf64 hmt
  clear hbr hg hmt
  go_enter Tryd.func5, Tryd.ntmps5
  go_wp2_with fail
  refine (alive_c _).mono ?_
  rintro E w1 ⟨rfl, haw⟩
  replace HA := Lib.hid (HA.out.on haw)
  clear haw
  go_wp2_with fail
  refine (own_any a b _ cap _ rfl (by exact HR.out.on HA.out)).mono ?_
  rintro E wo ⟨vo, rfl, hown, hnew, haw, -, -⟩
  have HOO := Lib.hid hown
  clear hown
  go_wp2_with (at_builtin; refine wpList_appG rfl _ _ rfl _ b [165, 166] rfl (by exact HOO.out.away ((Away.refl [] _).alloc _) (by simp)) ⟨wo.heap.size, 0, none⟩ 2 2 rfl rfl (lit_cells _ [165, 166] _ rfl) (by omega) ?_; refine Hid.out ?_)
  refine Lib.hid ?_
  intro vf w2 hownf hgr hmov
  have hsw0 := haw.size
  have haw2 : Away [] w1 w2 := (haw.alloc _).grown hgr (fun k hk => .inr (hnew k hk))
  have hnf : New w1.heap.size vf := hnew.moved hmov (by simp; omega)
  clear hgr hmov hnew haw HOO
  have haw := haw2
  clear haw2
  replace HA := Lib.hid (HA.out.on haw)
  clear haw
  obtain ⟨gf, cf, rfl, hc_gf⟩ := hownf.block (by simp)
  have hg_gf := hnf gf rfl
  have hln : (b ++ [165, 166]).length = b.length + 2 := by simp
  rw [hln] at hc_gf
  have HF : Hid (Owns w2 (.slice (some ⟨gf, 0, none⟩) (b.length + 2) cf) (b ++ mk2)) := by rw [hln] at hownf; exact hownf
  have hl_gf := HF.out.lt gf rfl
  clear hownf hnf
  try rw [hln]
  have s1 := slice_h (some ⟨gf, 0, none⟩) (b.length + 2) cf b.length (b.length : Int) rfl (by omega)
  go_wp2_with fail
  go_loopw [6] (fun i wr => ∃ k : Nat, k ≤ 5 ∧ i = .int .i64 (k : Int) ∧ Away [] w2 wr) (fun i _ => 5 - (intOf i).toNat)
  case atStart => exact ⟨0, by omega, rfl, Away.refl _ _⟩
  case round =>
    obtain ⟨k, hk, rfl, haw0⟩ := hrel
    have haw := haw0
    have HAWX := Lib.hid haw0
    clear haw0
    replace HA := Lib.hid (HA.out.on haw)
    replace HF := Lib.hid (HF.out.on haw)
    clear haw
    by_cases hlt : k < 5
    · have t1 : (k : Int) < 5 := by omega
      obtain ⟨rest, hrest⟩ : ∃ r : Int, r = if k = 0 then mtu else 0 := ⟨_, rfl⟩
      obtain ⟨m, hm⟩ : ∃ m, m = (errsP b mtu k).1 := ⟨_, rfl⟩
      obtain ⟨e, he⟩ : ∃ e, e = (errsP b mtu k).2 := ⟨_, rfl⟩
      have HE : Hid (errsP b mtu k = (m, e)) := by rw [hm, he]; rfl
      have HE2 : Hid (rErrP b rest (ty4 k) (co4 k) (ty6 k) (co6 k) = (m, e)) := by have := errs_ref b mtu k; rw [HE.out, ← hrest] at this; exact this.symm
      have HMB : Hid (Bytes m.d ∧ m.d.length ≤ b.length) := by rw [hm]; exact errs_bytes HBY.out mtu k
      have hml := HMB.out.2
      have HREST := Lib.hid hrest
      clear hm he hrest
      go_wp2_with fail
      refine (errors_c k (some ⟨gf, 0, none⟩) b cf mtu _ hlt (by exact (HF.out.front rfl HBY.out (by omega) hc_gf).of.2.2.2) (by omega) (by simp) (by exact HG.out.on HA.out)).mono ?_
      rw [HE.out]
      rintro E w3 ⟨vm, rfl, hown, hnew, haw⟩
      have hs_vm := haw.size
      replace HA := Lib.hid (HA.out.on haw); replace HAWX := Lib.hid (HAWX.out.on haw)
      replace HF := Lib.hid (HF.out.on haw)
      clear haw
      have HVM := Lib.hid hown
      have hn_vm := Lib.hid hnew
      clear hown hnew
      obtain ⟨va, vc, hvv, -, -⟩ := HVM.out.slc
      subst hvv
      go_wp2_with (refine wpList_newM rfl rfl rfl _ _ rfl m (.slice va m.d.length vc) (fun _ => rfl) (fun _ => rfl) rfl ?_; refine Hid.out ?_)
      refine Lib.hid ?_
      intro g7 w4 hg_g7 hb haw
      replace HA := Lib.hid (HA.out.on haw); replace HAWX := Lib.hid (HAWX.out.on haw)
      replace HF := Lib.hid (HF.out.on haw)
      replace HVM := Lib.hid (HVM.out.on haw)
      clear haw
      have H7 := Lib.hid hb
      have hl_g7 := hb.lt
      clear hb
      have KT : Hid (∀ w, Calls Tryd.prog 16 #[.int .i64 (k : Int)] w fun E w' => E = .returned (.agg (rowK k)) ∧ Away [] w w') := fun w => table_c k w hlt
      have KE : Hid (∀ w, Row w a b → Calls Tryd.prog 17 #[.slice a b.length cap, .int .i64 rest, .int .i64 (ty4 k), .int .i64 (co4 k), .int .i64 (ty6 k), .int .i64 (co6 k)] w fun E w' => MParseOut w (m, e) E w') := fun w h => by rw [← HE2.out]; exact rerror_c a b cap rest (ty4 k) (co4 k) (ty6 k) (co6 k) w h hbl hbn
      have HRK : Hid ((rowK k)[0]? = some (.int .i64 (ty4 k)) ∧ (rowK k)[1]? = some (.int .i64 (co4 k)) ∧ (rowK k)[2]? = some (.int .i64 (ty6 k)) ∧ (rowK k)[3]? = some (.int .i64 (co6 k))) := ⟨rfl, rfl, rfl, rfl⟩
      have HRS : Hid ((rowK k).size = 4 ∧ (rowK k).all (·.oneCell') = true) := ⟨rfl, rowK_one k⟩
      generalize rowK k = RK at *
      generalize ty4 k = T4 at *
      generalize co4 k = C4 at *
      generalize ty6 k = T6 at *
      generalize co6 k = C6 at *
      by_cases hk0 : k = 0
      · have hrs : rest = mtu := by rw [HREST.out, if_pos hk0]
        subst hrs
        subst hk0
        go_wp2_with fail
        refine (KT.out _).mono ?_
        rintro E w5 ⟨rfl, haw⟩
        replace HA := Lib.hid (HA.out.on haw); replace HAWX := Lib.hid (HAWX.out.on haw)
        replace HF := Lib.hid (HF.out.on haw)
        replace HVM := Lib.hid (HVM.out.on haw)
        replace H7 := Lib.hid (H7.out.on haw)
        clear haw
        go_wp2_with (refine wpList_newC 45 RK #[.int .i64 0, .int .i64 0, .int .i64 0, .int .i64 0] zero_4 (by rw [HRS.out.1]; exact info_4) (by rw [HRS.out.1]; rfl) HRS.out.2 rfl rfl rfl _ _ rfl (fun _ => rfl) (fun _ => rfl) ?_; refine Hid.out ?_)
        refine Lib.hid ?_
        intro g10 w6 hg_g10 hb haw
        replace HA := Lib.hid (HA.out.on haw); replace HAWX := Lib.hid (HAWX.out.on haw)
        replace HF := Lib.hid (HF.out.on haw)
        replace HVM := Lib.hid (HVM.out.on haw)
        replace H7 := Lib.hid (H7.out.on haw)
        clear haw
        have H10 := Lib.hid hb
        have hl_g10 := hb.lt
        clear hb
        have c0 := H10.out.at 0 _ HRK.out.1; have c1 := H10.out.at 1 _ HRK.out.2.1; have c2 := H10.out.at 2 _ HRK.out.2.2.1; have c3 := H10.out.at 3 _ HRK.out.2.2.2
        go_wp2_with fail
        refine (KE.out _ (by exact HR.out.on HA.out)).mono ?_
        rintro E w7 ⟨un, rfl, hown, hnew, haw⟩
        replace HA := Lib.hid (HA.out.on haw); replace HAWX := Lib.hid (HAWX.out.on haw)
        replace HF := Lib.hid (HF.out.on haw)
        replace HVM := Lib.hid (HVM.out.on haw)
        replace H7 := Lib.hid (H7.out.on haw)
        replace H10 := Lib.hid (H10.out.on haw)
        clear haw
        have HUN := Lib.hid hown
        clear hown hnew c0 c1 c2 c3
        obtain ⟨ua, uc, huv, -, -⟩ := HUN.out.slc
        subst huv
        go_wp2_with (refine wpList_newM rfl rfl rfl _ _ rfl m (.slice ua m.d.length uc) (fun _ => rfl) (fun _ => rfl) rfl ?_; refine Hid.out ?_)
        refine Lib.hid ?_
        intro g11 w8 hg_g11 hb haw
        replace HA := Lib.hid (HA.out.on haw); replace HAWX := Lib.hid (HAWX.out.on haw)
        replace HF := Lib.hid (HF.out.on haw)
        replace HVM := Lib.hid (HVM.out.on haw)
        replace H7 := Lib.hid (H7.out.on haw)
        replace H10 := Lib.hid (H10.out.on haw)
        replace HUN := Lib.hid (HUN.out.on haw)
        clear haw
        have H11 := Lib.hid hb
        have hl_g11 := hb.lt
        clear hb
        go_wp2_with (first | (refine wpList_loadM rfl _ rfl g7 rfl m _ (by exact H7.out) ?_) | (refine wpList_loadM rfl _ rfl g11 rfl m _ (by exact H11.out) ?_))
        refine (sameM_yes m _ _ _ (by exact HVM.out.sl HMB.out.1 (by omega)) (by exact HUN.out.sl HMB.out.1 (by omega))).mono ?_
        rintro E w9 ⟨rfl, haw⟩
        replace HA := Lib.hid (HA.out.on haw); replace HAWX := Lib.hid (HAWX.out.on haw)
        replace HF := Lib.hid (HF.out.on haw)
        replace HVM := Lib.hid (HVM.out.on haw)
        replace H7 := Lib.hid (H7.out.on haw)
        replace H10 := Lib.hid (H10.out.on haw)
        replace HUN := Lib.hid (HUN.out.on haw)
        replace H11 := Lib.hid (H11.out.on haw)
        clear haw
        have q1 : (e != e) = false := by simp
        go_wp2_with fail
        go_roundw
        case rel => exact ⟨1, by omega, by rfl, HAWX.out⟩
        case measure => simp [intOf]
      · have hrs : rest = 0 := by rw [HREST.out, if_neg hk0]
        subst hrs
        have t2 : ((k : Int) == 0) = false := by simp; omega
        go_wp2_with fail
        refine (KT.out _).mono ?_
        rintro E w5 ⟨rfl, haw⟩
        replace HA := Lib.hid (HA.out.on haw); replace HAWX := Lib.hid (HAWX.out.on haw)
        replace HF := Lib.hid (HF.out.on haw)
        replace HVM := Lib.hid (HVM.out.on haw)
        replace H7 := Lib.hid (H7.out.on haw)
        clear haw
        go_wp2_with (refine wpList_newC 45 RK #[.int .i64 0, .int .i64 0, .int .i64 0, .int .i64 0] zero_4 (by rw [HRS.out.1]; exact info_4) (by rw [HRS.out.1]; rfl) HRS.out.2 rfl rfl rfl _ _ rfl (fun _ => rfl) (fun _ => rfl) ?_; refine Hid.out ?_)
        refine Lib.hid ?_
        intro g10 w6 hg_g10 hb haw
        replace HA := Lib.hid (HA.out.on haw); replace HAWX := Lib.hid (HAWX.out.on haw)
        replace HF := Lib.hid (HF.out.on haw)
        replace HVM := Lib.hid (HVM.out.on haw)
        replace H7 := Lib.hid (H7.out.on haw)
        clear haw
        have H10 := Lib.hid hb
        have hl_g10 := hb.lt
        clear hb
        have c0 := H10.out.at 0 _ HRK.out.1; have c1 := H10.out.at 1 _ HRK.out.2.1; have c2 := H10.out.at 2 _ HRK.out.2.2.1; have c3 := H10.out.at 3 _ HRK.out.2.2.2
        go_wp2_with fail
        refine (KE.out _ (by exact HR.out.on HA.out)).mono ?_
        rintro E w7 ⟨un, rfl, hown, hnew, haw⟩
        replace HA := Lib.hid (HA.out.on haw); replace HAWX := Lib.hid (HAWX.out.on haw)
        replace HF := Lib.hid (HF.out.on haw)
        replace HVM := Lib.hid (HVM.out.on haw)
        replace H7 := Lib.hid (H7.out.on haw)
        replace H10 := Lib.hid (H10.out.on haw)
        clear haw
        have HUN := Lib.hid hown
        clear hown hnew c0 c1 c2 c3
        obtain ⟨ua, uc, huv, -, -⟩ := HUN.out.slc
        subst huv
        go_wp2_with (refine wpList_newM rfl rfl rfl _ _ rfl m (.slice ua m.d.length uc) (fun _ => rfl) (fun _ => rfl) rfl ?_; refine Hid.out ?_)
        refine Lib.hid ?_
        intro g11 w8 hg_g11 hb haw
        replace HA := Lib.hid (HA.out.on haw); replace HAWX := Lib.hid (HAWX.out.on haw)
        replace HF := Lib.hid (HF.out.on haw)
        replace HVM := Lib.hid (HVM.out.on haw)
        replace H7 := Lib.hid (H7.out.on haw)
        replace H10 := Lib.hid (H10.out.on haw)
        replace HUN := Lib.hid (HUN.out.on haw)
        clear haw
        have H11 := Lib.hid hb
        have hl_g11 := hb.lt
        clear hb
        go_wp2_with (first | (refine wpList_loadM rfl _ rfl g7 rfl m _ (by exact H7.out) ?_) | (refine wpList_loadM rfl _ rfl g11 rfl m _ (by exact H11.out) ?_))
        refine (sameM_yes m _ _ _ (by exact HVM.out.sl HMB.out.1 (by omega)) (by exact HUN.out.sl HMB.out.1 (by omega))).mono ?_
        rintro E w9 ⟨rfl, haw⟩
        replace HA := Lib.hid (HA.out.on haw); replace HAWX := Lib.hid (HAWX.out.on haw)
        replace HF := Lib.hid (HF.out.on haw)
        replace HVM := Lib.hid (HVM.out.on haw)
        replace H7 := Lib.hid (H7.out.on haw)
        replace H10 := Lib.hid (H10.out.on haw)
        replace HUN := Lib.hid (HUN.out.on haw)
        replace H11 := Lib.hid (H11.out.on haw)
        clear haw
        have q1 : (e != e) = false := by simp
        go_wp2_with fail
        go_roundw
        case rel => exact ⟨k + 1, by omega, by go_num, HAWX.out⟩
        case measure => simp [intOf]; omega
    · obtain rfl : k = 5 := by omega
      clear s1
      go_wp2_with fail
      refine (own_any a b _ cap _ rfl (by exact HR.out.on HA.out)).mono ?_
      rintro E wo ⟨vo, rfl, hown, hnew, haw, -, -⟩
      have HOO := Lib.hid hown
      clear hown
      go_wp2_with (at_builtin; refine wpList_appG rfl _ _ rfl _ b [165, 166] rfl (by exact HOO.out.away ((Away.refl [] _).alloc _) (by simp)) ⟨wo.heap.size, 0, none⟩ 2 2 rfl rfl (lit_cells _ [165, 166] _ rfl) (by omega) ?_; refine Hid.out ?_)
      refine Lib.hid ?_
      intro vf w3 hownf hgr hmov
      have hsw0 := haw.size
      have haw2 : Away [] wr w3 := (haw.alloc _).grown hgr (fun k hk => .inr (hnew k hk))
      have hnf : New wr.heap.size vf := hnew.moved hmov (by simp; omega)
      clear hgr hmov hnew haw HOO
      have haw := haw2
      clear haw2
      replace HA := Lib.hid (HA.out.on haw); replace HAWX := Lib.hid (HAWX.out.on haw)
      replace HF := Lib.hid (HF.out.on haw)
      clear haw
      obtain ⟨gz, cz, rfl, hc_gz⟩ := hownf.block (by simp)
      have hg_gz := hnf gz rfl
      have hln : (b ++ [165, 166]).length = b.length + 2 := by simp
      rw [hln] at hc_gz
      have HZ : Hid (Owns w3 (.slice (some ⟨gz, 0, none⟩) (b.length + 2) cz) (b ++ mk2)) := by rw [hln] at hownf; exact hownf
      have hl_gz := HZ.out.lt gz rfl
      clear hownf hnf
      go_wp2_with fail
      refine (same_sl _ _ (b ++ mk2) _ (by exact full_sl HF.out HBY.out (by omega) hc_gf) (by exact full_sl HZ.out HBY.out (by omega) hc_gz)).mono ?_
      rintro E w3 ⟨rfl, rfl⟩
      go_wp2_with fail
      go_ret
      exact ⟨rfl, HA.out.to_below⟩
end icmpQuotes
namespace icmpQuotes
theorem contract (H : Type) (enc : TypeId × Value → H) (W : World) (base : Nat) (args : Array Value) (ds gs : List (DataW H)) (before : List MemPlace)
    (hval0 : ∀ (j : Nat) t v, Tryd.f5.params[j]? = some t → args[j]? = some v → Value.okWide Tryd.prog W .any base t v)
    (hW : DataW.Whole enc Tryd.prog Tryd.f5.params.toList Rows.icmpQuotesSpec.vars false W args.toList ds gs before)
    (hsz0 : (DataW.weightsEach Tryd.prog (Tryd.f5.params.toList ++ Rows.icmpQuotesSpec.plain.varTypes Tryd.prog) (ds ++ gs)).all (· ≤ reachBytes) = true)
    (hL : laidMetH Tryd.prog Rows.icmpQuotesRow.laid W) :
    Calls Tryd.prog 5 args W fun e W' => ∃ v, e = .returned v ∧ Rows.icmpQuotesSpec.post enc Tryd.prog Tryd.f5 false true false false W args v W' := by
  have hval := hval0
  have hsz := hsz0
  have hW' := hW
  obtain ⟨p, q, hA0, hV, rfl, hfz, hnd⟩ := hW
  have hA : DataW.TrodAll enc Tryd.prog W 0 (fun _ => true) true Tryd.f5.params.toList args.toList ds p := hA0
  rw [Tryd.params5] at hA hval hsz
  obtain ⟨v0, vs0, d0, ds0, p0, q0, hargs, rfl, rfl, h0, r0⟩ := trodAll_cons hA
  obtain ⟨v1, vs1, d1, ds1, p1, q1, rfl, rfl, rfl, h1, r1⟩ := trodAll_cons r0
  obtain ⟨rfl, rfl, rfl⟩ := trodAll_nil r1
  obtain rfl : args = #[v0, v1] := by cases args; simp_all
  obtain ⟨rfl, rfl⟩ := trodVars_none hV
  have k0 := h0
  have lt0 : ∀ x ∈ p0, x.block < W.heap.size := by obtain ⟨m, hm⟩ := k0; exact DataW.trod_lt m _ _ _ hm
  have z0 : ∀ m ∈ d0.weights Tryd.prog 26, m ≤ reachBytes := fun m hm => by
    have := List.all_eq_true.1 hsz m (DataW.weights_mem_each (j := 0) (t := 26) rfl rfl m hm)
    simpa using this
  obtain ⟨a0, len0, cap0, rfl⟩ := okWide_slice Tryd.underlying26 (hval 0 26 v0 rfl rfl)
  obtain ⟨l0, rfl, c0, cc0, w0, n0, u0⟩ := open_bytes h0 z0
  obtain ⟨a1, rfl, rfl, rfl, w1⟩ := open_int Tryd.underlying3 (hval 1 3 v1 rfl rfl) h1
  clear hA0 hval0
  refine (walk a0 l0 cap0 a1 W (glob_of hL) c0 w0 n0 cc0 w1).mono fun e W' ⟨he, bel⟩ => ?_
  subst he
  exact ⟨_, rfl, _, _, _, [], _, [], hW', trodAll_mk1 (shut_bool Tryd.underlying4 _), (trodAll_cons_mk (Below.trod laidOut (by kernel_rfl) (of_decide_eq_true (by kernel_rfl)) k0 bel lt0) (trodAll_cons_mk (shut_int Tryd.underlying3 w1) trodAll_mk0)), rfl, bel.frame _, fun h => by cases h⟩
theorem laid_met (os : Os) : laidMet Tryd.prog Rows.icmpQuotesRow.laid ((laidWorld Tryd.prog os).forCall (fun _ _ => 0) ⟨#[], #[.slice none 0 0, .int .i64 0], []⟩).memory :=
  laidMet_of_run' 8 (by kernel_rfl) (by kernel_rfl)
theorem reads (os : Os) {H : Type} (enc : TypeId × Value → H) : ∃ places, DataW.whole enc Tryd.prog ((laidWorld Tryd.prog os).forCall (fun _ _ => 0) ⟨#[], #[.slice none 0 0, .int .i64 0], []⟩).memory Tryd.f5.params.toList Rows.icmpQuotesSpec.vars false #[.slice none 0 0, .int .i64 0].toList 8 = some ([.nil, .lit (.int .i64 0)], [], places) :=
  ⟨[], by kernel_rfl⟩
theorem lifted (os : Os) (started : os.Started) (H : Type) (enc : TypeId × Value → H) (F : Stop.Interp) :
    ReturnsInHanded {} Tryd.checked os 5 .any ((OpenSpec.ofChange Rows.icmpQuotesSpec).preRow enc Tryd.prog Tryd.f5 Rows.icmpQuotesRow.domain false Rows.icmpQuotesRow.laid) (((OpenSpec.ofChange Rows.icmpQuotesSpec).at F).post enc Tryd.prog Tryd.f5 false true false false) := by
  obtain ⟨places, hx⟩ := reads os enc
  refine returnsInHanded_of_row (C := Tryd.checked) (s := OpenSpec.ofChange Rows.icmpQuotesSpec) ownKn started (by kernel_rfl) Tryd.func5
    (witness_row_at (enc := enc) (C := Tryd.checked) false (laidWorld Tryd.prog os) #[.slice none 0 0, .int .i64 0] rfl (by kernel_rfl) (by kernel_rfl) (by kernel_rfl)
      (OpenSpec.preRow_of_cond 8 hx (by kernel_rfl) (fun k hk => by cases hk) (by kernel_rfl) (laid_met os))) ?_
  intro W base args ds gs before hval hW _ hcond hsz hL hS _
  exact contract H enc W base args ds gs before hval hW hsz hL
theorem said : Rows.IcmpQuotesSaid :=
  OpenClaim.holds_of_cond 5 Tryd.f5 rfl rfl rfl rfl rfl rfl rfl ⟨rfl, rfl, rfl, rfl, rfl⟩ rfl rfl rfl rfl rfl (by kernel_rfl) Tryd.func5 (by kernel_rfl)
    (of_decide_eq_true (by kernel_rfl)) (by unfold Func.isWrapper; first | (rw [if_pos (by decide +kernel)]; kernel_rfl) | (rw [if_neg (by decide +kernel)]; exact ⟨rfl, rfl⟩))
    (fun os started H enc _ F => by rw [OpenClaim.pre_eq_preRow]; exact lifted os started H enc F)
theorem plain (f : FuncId) (fn : Func) (hf : Tryd.pinned.checked.prog.funcNamed "mosaic/mosaiclaw08.IcmpQuotes" = some f) (hfn : Tryd.pinned.checked.prog.funcs[f]? = some fn) :
    false = Tryd.pinned.checked.prog.looks [] ∧ ∀ (j : Nat) t, fn.params[j]? = some t → Tryd.pinned.checked.prog.wantsStandIn t = false := by
  obtain rfl : f = 5 := Option.some.inj ((show Tryd.prog.funcNamed "mosaic/mosaiclaw08.IcmpQuotes" = some 5 by kernel_rfl).symm.trans hf) |>.symm
  obtain rfl : fn = Tryd.f5 := (Option.some.inj (Tryd.func5.symm.trans hfn)).symm
  refine ⟨by kernel_rfl, fun j t ht => ?_⟩
  rw [Tryd.params5] at ht
  have hm := Array.mem_of_getElem? ht
  simp only [List.mem_toArray, List.mem_cons, List.not_mem_nil, or_false] at hm
  have h28 : Tryd.prog.wantsStandIn 28 = false := by kernel_rfl
  have h26 : Tryd.prog.wantsStandIn 26 = false := by kernel_rfl
  have h3 : Tryd.prog.wantsStandIn 3 = false := by kernel_rfl
  rcases hm with rfl | rfl
  all_goals first | exact h28 | exact h26 | exact h3
theorem card : Rows.IcmpQuotesCardSaid :=
  Claim7.holds_tied_plain_at .later [] _ _ _ _ said (fun _ h => by cases h) (by kernel_rfl) (fun _ h => by cases h) icmpQuotes_row_tie rfl ⟨rfl, rfl⟩ (by kernel_rfl) rfl plain (by kernel_rfl)
end icmpQuotes
theorem icmpQuotes_holds : Rows.IcmpQuotesCardSaid := icmpQuotes.card
#print axioms icmpQuotes_holds
end Go.Proofs.YtbgpjhekohabiabDoor
