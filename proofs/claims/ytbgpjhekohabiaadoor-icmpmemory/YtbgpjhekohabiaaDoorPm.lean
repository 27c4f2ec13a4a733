/-
  Parse of icmp.
-/
import Derived.Test.YtbgpjhekohabiaaDoorCk
import Derived.Test.YtbgpjhekohabiaaDoorRead
namespace Go.Proofs.YtbgpjhekohabiaaDoor
open Go.ChangeShapes Go.WideShapes Go.ChangeAt Go.RowKit Num
set_option linter.unusedVariables false
set_option maxHeartbeats 4000000
set_option maxRecDepth 100000

/-- What Parse tells. -/
def MParseOut (w : World) (r : Mg × Int) (E : Ending) (w' : World) : Prop :=
  ∃ dv, E = .returned (.tuple #[.agg (csM r.1 dv), .int .i64 r.2]) ∧ Owns w' dv r.1.d ∧ New w.heap.size dv ∧ Away [] w w'
theorem mrd1 (x : Int) (r : List Int) : rdOut (x :: r) 0 1 = [x] ∧ rdRest (x :: r) 0 1 = r ∧ rdErr (x :: r) 0 1 = 0 := by
  have h : (1 : Int) ≤ ((x :: r).length : Int) := by simp; omega
  exact ⟨by unfold rdOut; rw [if_pos ⟨rfl, by omega, h⟩]; rfl, by unfold rdRest; rw [if_pos ⟨rfl, by omega, h⟩]; rfl, by unfold rdErr; rw [if_pos rfl, if_neg (by omega), if_pos h]⟩
theorem mrd2 (x y : Int) (r : List Int) : rdOut (x :: y :: r) 0 2 = [x, y] ∧ rdRest (x :: y :: r) 0 2 = r ∧ rdErr (x :: y :: r) 0 2 = 0 := by
  have h : (2 : Int) ≤ ((x :: y :: r).length : Int) := by simp; omega
  exact ⟨by unfold rdOut; rw [if_pos ⟨rfl, by omega, h⟩]; rfl, by unfold rdRest; rw [if_pos ⟨rfl, by omega, h⟩]; rfl, by unfold rdErr; rw [if_pos rfl, if_neg (by omega), if_pos h]⟩
theorem rdq (x y z u : Int) (r : List Int) : rdOut (x :: y :: z :: u :: r) 0 4 = [x, y, z, u] ∧ rdRest (x :: y :: z :: u :: r) 0 4 = r ∧ rdErr (x :: y :: z :: u :: r) 0 4 = 0 := by
  have h : (4 : Int) ≤ ((x :: y :: z :: u :: r).length : Int) := by simp; omega
  exact ⟨by unfold rdOut; rw [if_pos ⟨rfl, by omega, h⟩]; rfl, by unfold rdRest; rw [if_pos ⟨rfl, by omega, h⟩]; rfl, by unfold rdErr; rw [if_pos rfl, if_neg (by omega), if_pos h]⟩
theorem u8_one (w : World) (g d : Nat) (x : Int) (r : List Int) (h : Rd w g d (x :: r) 0) :
    Calls Tryd.prog 39 #[.pointer (some ⟨g, 0, none⟩)] w fun E w' => E = .returned (.int .u8 x) ∧ Rd w' g d r 0 ∧ Away [g] w w' := by
  have := u8_any w g d (x :: r) 0 h
  obtain ⟨e1, e2, e3⟩ := mrd1 x r
  rw [e1, e2, e3] at this
  refine this.mono fun E w' hk => ⟨by rw [hk.1]; simp [num], hk.2.1, hk.2.2⟩
theorem u16_two (w : World) (g d : Nat) (x y : Int) (r : List Int) (n : Int) (hn : n = 256 * x + y) (h : Rd w g d (x :: y :: r) 0) :
    Calls Tryd.prog 40 #[.pointer (some ⟨g, 0, none⟩)] w fun E w' => E = .returned (.int .u16 n) ∧ Rd w' g d r 0 ∧ Away [g] w w' := by
  have := u16_any w g d (x :: y :: r) 0 h
  obtain ⟨e1, e2, e3⟩ := mrd2 x y r
  rw [e1, e2, e3] at this
  subst hn
  refine this.mono fun E w' hk => ⟨by rw [hk.1]; simp [num], hk.2.1, hk.2.2⟩
theorem u32_four (w : World) (g d : Nat) (x y z u : Int) (r : List Int) (n : Int) (hn : n = (256 * x + y) * 65536 + (256 * z + u)) (h : Rd w g d (x :: y :: z :: u :: r) 0) :
    Calls Tryd.prog 41 #[.pointer (some ⟨g, 0, none⟩)] w fun E w' => E = .returned (.int .u32 n) ∧ Rd w' g d r 0 ∧ Away [g] w w' := by
  have := u32_any w g d (x :: y :: z :: u :: r) 0 h
  obtain ⟨e1, e2, e3⟩ := rdq x y z u r
  rw [e1, e2, e3] at this
  refine this.mono fun E w' hk => ⟨by rw [hk.1]; exact ret_int (by simp [num]; omega), hk.2.1, hk.2.2⟩
theorem rdAll (r : List Int) : rdOut r 0 r.length = r ∧ rdRest r 0 r.length = [] ∧ rdErr r 0 r.length = 0 := by
  refine ⟨by unfold rdOut; rw [if_pos ⟨rfl, by omega, by omega⟩]; simp, by unfold rdRest; rw [if_pos ⟨rfl, by omega, by omega⟩]; simp, by unfold rdErr; rw [if_pos rfl, if_neg (by omega), if_pos (by omega)]⟩
/-- The reading: boxes, the reader, the message that is being filled. -/
structure Rp (w wx : World) (g1 g2 g6 g9 gr d : Nat) (s t : Ax) (g : Mg) (dv : Value) (r : List Int) : Prop where
  aw : Away [] w wx
  b1 : BoxX wx g1 s
  b2 : BoxX wx g2 t
  b6 : BoxM wx g6 zeroMg (.slice none 0 0)
  b9 : BoxM wx g9 g dv
  rd : Rd wx gr d r 0
  le : w.heap.size ≤ gr ∧ w.heap.size ≤ g9 ∧ w.heap.size ≤ g6
  ne : g1 ≠ gr ∧ g2 ≠ gr ∧ g6 ≠ gr ∧ g9 ≠ gr ∧ g1 ≠ g9 ∧ g2 ≠ g9 ∧ g6 ≠ g9 ∧ d ≠ g9
theorem Rp.read {w wx w' : World} {g1 g2 g6 g9 gr d : Nat} {s t : Ax} {g : Mg} {dv : Value} {r r' : List Int} (h : Rp w wx g1 g2 g6 g9 gr d s t g dv r) (hr : Rd w' gr d r' 0) (ha : Away [gr] wx w') : Rp w w' g1 g2 g6 g9 gr d s t g dv r' := by
  obtain ⟨n1, n2, n3, n4, n5, n6, n7, n8⟩ := h.ne
  exact ⟨h.aw.next ha (fun x hx => .inr (by simp at hx; rw [hx]; exact h.le.1)), h.b1.away ha (by simpa using n1), h.b2.away ha (by simpa using n2), h.b6.away ha (by simpa using n3), h.b9.away ha (by simpa using n4), hr, h.le, h.ne⟩
theorem Rp.put {w wx : World} {g1 g2 g6 g9 gr d : Nat} {s t : Ax} {g g' : Mg} {dv dv' : Value} {r : List Int} (h : Rp w wx g1 g2 g6 g9 gr d s t g dv r) (i : Nat) (x : Value) (hx : (csM g dv).setIfInBounds i x = csM g' dv') :
    Rp w (wx.setCell ⟨g9, i, none⟩ x) g1 g2 g6 g9 gr d s t g' dv' r := by
  obtain ⟨n1, n2, n3, n4, n5, n6, n7, n8⟩ := h.ne
  have ha := away_put (w := wx) (g := g9) i x
  exact ⟨h.aw.next ha (fun x hx => .inr (by simp at hx; rw [hx]; exact h.le.2.1)), h.b1.away ha (by simpa using n5), h.b2.away ha (by simpa using n6), h.b6.away ha (by simpa using n7), h.b9.put i x hx, h.rd.away ha (by simpa using n4.symm) (by simpa using n8), h.le, h.ne⟩
theorem Rp.on {w wx w' : World} {g1 g2 g6 g9 gr d : Nat} {s t : Ax} {g : Mg} {dv : Value} {r : List Int} (h : Rp w wx g1 g2 g6 g9 gr d s t g dv r) (ha : Away [] wx w') : Rp w w' g1 g2 g6 g9 gr d s t g dv r :=
  ⟨h.aw.on ha, h.b1.on ha, h.b2.on ha, h.b6.on ha, h.b9.on ha, h.rd.away ha (by simp) (by simp), h.le, h.ne⟩
theorem parse_no1 (s t : Ax) (a : Option Addr) (b : List Int) (cap : Nat) (w : World) (hs : WfA s) (ht : WfA t) (hr : Row w a b) (hn : a = none → cap = 0) (hz : pairP s t = false) :
    Calls Tryd.prog 14 #[.agg (csA s.v s.l), .agg (csA t.v t.l), .slice a b.length cap] w fun E w' => MParseOut w (zeroMg, 1) E w' := by
  have K1 : Hid (∀ w, Calls Tryd.prog 27 #[.agg (csA s.v s.l), .agg (csA t.v t.l)] w fun e w' => e = .returned (.bool false) ∧ Away [] w w') := fun w => by rw [← hz]; exact pair_c s t w hs ht
  have HS := Lib.hid hs
  have HT := Lib.hid ht
  have HR := Lib.hid hr
  have hlen := hr.1
  clear hs ht hr hz
  go_enter Tryd.func14, Tryd.ntmps14
  go_wp2_with (refine wpList_boxX rfl _ rfl s rfl ?_; refine Hid.out ?_)
  refine Lib.hid ?_
  intro g1 w1 hg1 hb haw
  have HA := Lib.hid haw; have HB := Lib.hid hb
  have hl1 := hb.lt
  clear hb haw
  go_wp2_with (refine wpList_boxX rfl _ rfl t rfl ?_; refine Hid.out ?_)
  refine Lib.hid ?_
  intro g2 w2 hg2 hb haw
  replace HA := Lib.hid (HA.out.on haw); replace HB := Lib.hid (HB.out.on haw); have HC := Lib.hid hb
  have hl2 := hb.lt
  clear hb haw
  go_wp2_with (refine wpList_allocM rfl rfl ?_; refine Hid.out ?_)
  refine Lib.hid ?_
  intro g6 w3 hg6 hb haw
  replace HA := Lib.hid (HA.out.on haw); replace HB := Lib.hid (HB.out.on haw); replace HC := Lib.hid (HC.out.on haw); have HD := Lib.hid hb
  have hl6 := hb.lt
  have hs1 := HA.out.size
  clear hb haw
  go_wp2_with (first | (refine wpList_loadX rfl _ rfl g1 rfl s (by exact HB.out) HS.out ?_) | (refine wpList_loadX rfl _ rfl g2 rfl t (by exact HC.out) HT.out ?_))
  refine (K1.out _).mono ?_
  rintro E w4 ⟨rfl, haw⟩
  replace HA := Lib.hid (HA.out.on haw); replace HB := Lib.hid (HB.out.on haw); replace HC := Lib.hid (HC.out.on haw); replace HD := Lib.hid (HD.out.on haw)
  have hs4 := haw.size
  clear haw K1
  go_wp2_with (refine wpList_storeM rfl _ _ rfl g6 rfl zeroMg (.slice none 0 0) rfl zeroMg (.slice none 0 0) (by exact HD.out) rfl ?_; refine Hid.out ?_)
  refine Lib.hid ?_
  intro wz hb haw
  have HZ := Lib.hid hb
  replace HA : Hid (Away [] w wz) := HA.out.next haw (fun x hx => .inr (by simp at hx; omega))
  clear hb haw
  go_wp2_with fail
  refine bodyPost_ret (resultMt rfl _ _ _ _ _ _ rfl rfl HZ.out) rfl ⟨_, rfl, Owns.nil _, New.nil _, HA.out⟩
theorem parse_no2 (s t : Ax) (a : Option Addr) (b : List Int) (cap : Nat) (w : World) (hs : WfA s) (ht : WfA t) (hr : Row w a b) (hn : a = none → cap = 0) (hz : pairP s t = true) (h8 : b.length < 8) :
    Calls Tryd.prog 14 #[.agg (csA s.v s.l), .agg (csA t.v t.l), .slice a b.length cap] w fun E w' => MParseOut w (zeroMg, 20) E w' := by
  have K1 : Hid (∀ w, Calls Tryd.prog 27 #[.agg (csA s.v s.l), .agg (csA t.v t.l)] w fun e w' => e = .returned (.bool true) ∧ Away [] w w') := fun w => by rw [← hz]; exact pair_c s t w hs ht
  have HS := Lib.hid hs
  have HT := Lib.hid ht
  have HR := Lib.hid hr
  have hlen := hr.1
  clear hs ht hr hz
  go_enter Tryd.func14, Tryd.ntmps14
  go_wp2_with (refine wpList_boxX rfl _ rfl s rfl ?_; refine Hid.out ?_)
  refine Lib.hid ?_
  intro g1 w1 hg1 hb haw
  have HA := Lib.hid haw; have HB := Lib.hid hb
  have hl1 := hb.lt
  clear hb haw
  go_wp2_with (refine wpList_boxX rfl _ rfl t rfl ?_; refine Hid.out ?_)
  refine Lib.hid ?_
  intro g2 w2 hg2 hb haw
  replace HA := Lib.hid (HA.out.on haw); replace HB := Lib.hid (HB.out.on haw); have HC := Lib.hid hb
  have hl2 := hb.lt
  clear hb haw
  go_wp2_with (refine wpList_allocM rfl rfl ?_; refine Hid.out ?_)
  refine Lib.hid ?_
  intro g6 w3 hg6 hb haw
  replace HA := Lib.hid (HA.out.on haw); replace HB := Lib.hid (HB.out.on haw); replace HC := Lib.hid (HC.out.on haw); have HD := Lib.hid hb
  have hl6 := hb.lt
  have hs1 := HA.out.size
  clear hb haw
  go_wp2_with (first | (refine wpList_loadX rfl _ rfl g1 rfl s (by exact HB.out) HS.out ?_) | (refine wpList_loadX rfl _ rfl g2 rfl t (by exact HC.out) HT.out ?_))
  refine (K1.out _).mono ?_
  rintro E w4 ⟨rfl, haw⟩
  replace HA := Lib.hid (HA.out.on haw); replace HB := Lib.hid (HB.out.on haw); replace HC := Lib.hid (HC.out.on haw); replace HD := Lib.hid (HD.out.on haw)
  have hs4 := haw.size
  clear haw K1
  go_wp2_with (refine wpList_storeM rfl _ _ rfl g6 rfl zeroMg (.slice none 0 0) rfl zeroMg (.slice none 0 0) (by exact HD.out) rfl ?_; refine Hid.out ?_)
  refine Lib.hid ?_
  intro wz hb haw
  have HZ := Lib.hid hb
  replace HA : Hid (Away [] w wz) := HA.out.next haw (fun x hx => .inr (by simp at hx; omega))
  clear hb haw
  go_wp2_with fail
  refine bodyPost_ret (resultMt rfl _ _ _ _ _ _ rfl rfl HZ.out) rfl ⟨_, rfl, Owns.nil _, New.nil _, HA.out⟩
theorem parse_no3 (s t : Ax) (a : Option Addr) (b : List Int) (cap : Nat) (w : World) (hs : WfA s) (ht : WfA t) (hr : Row w a b) (hn : a = none → cap = 0) (hz : pairP s t = true) (h8 : 8 ≤ b.length) (hm : mostP s.v < (b.length : Int)) :
    Calls Tryd.prog 14 #[.agg (csA s.v s.l), .agg (csA t.v t.l), .slice a b.length cap] w fun E w' => MParseOut w (zeroMg, 3) E w' := by
  have K1 : Hid (∀ w, Calls Tryd.prog 27 #[.agg (csA s.v s.l), .agg (csA t.v t.l)] w fun e w' => e = .returned (.bool true) ∧ Away [] w w') := fun w => by rw [← hz]; exact pair_c s t w hs ht
  have HS := Lib.hid hs
  have HT := Lib.hid ht
  have HR := Lib.hid hr
  have hlen := hr.1
  clear hs ht hr hz
  go_enter Tryd.func14, Tryd.ntmps14
  go_wp2_with (refine wpList_boxX rfl _ rfl s rfl ?_; refine Hid.out ?_)
  refine Lib.hid ?_
  intro g1 w1 hg1 hb haw
  have HA := Lib.hid haw; have HB := Lib.hid hb
  have hl1 := hb.lt
  clear hb haw
  go_wp2_with (refine wpList_boxX rfl _ rfl t rfl ?_; refine Hid.out ?_)
  refine Lib.hid ?_
  intro g2 w2 hg2 hb haw
  replace HA := Lib.hid (HA.out.on haw); replace HB := Lib.hid (HB.out.on haw); have HC := Lib.hid hb
  have hl2 := hb.lt
  clear hb haw
  go_wp2_with (refine wpList_allocM rfl rfl ?_; refine Hid.out ?_)
  refine Lib.hid ?_
  intro g6 w3 hg6 hb haw
  replace HA := Lib.hid (HA.out.on haw); replace HB := Lib.hid (HB.out.on haw); replace HC := Lib.hid (HC.out.on haw); have HD := Lib.hid hb
  have hl6 := hb.lt
  have hs1 := HA.out.size
  clear hb haw
  go_wp2_with (first | (refine wpList_loadX rfl _ rfl g1 rfl s (by exact HB.out) HS.out ?_) | (refine wpList_loadX rfl _ rfl g2 rfl t (by exact HC.out) HT.out ?_))
  refine (K1.out _).mono ?_
  rintro E w4 ⟨rfl, haw⟩
  replace HA := Lib.hid (HA.out.on haw); replace HB := Lib.hid (HB.out.on haw); replace HC := Lib.hid (HC.out.on haw); replace HD := Lib.hid (HD.out.on haw)
  have hs4 := haw.size
  clear haw K1
  have cv := HB.out.cell
  go_wp2_with fail
  refine (most_c s.v _).mono ?_
  rintro E w5 ⟨rfl, rfl⟩
  have hrm := most_bd s.v
  generalize mostP s.v = rm at *
  go_wp2_with (refine wpList_storeM rfl _ _ rfl g6 rfl zeroMg (.slice none 0 0) rfl zeroMg (.slice none 0 0) (by exact HD.out) rfl ?_; refine Hid.out ?_)
  refine Lib.hid ?_
  intro wz hb haw
  have HZ := Lib.hid hb
  replace HA : Hid (Away [] w wz) := HA.out.next haw (fun x hx => .inr (by simp at hx; omega))
  clear hb haw
  go_wp2_with fail
  refine bodyPost_ret (resultMt rfl _ _ _ _ _ _ rfl rfl HZ.out) rfl ⟨_, rfl, Owns.nil _, New.nil _, HA.out⟩
theorem parse_long (s t : Ax) (a : Option Addr) (b : List Int) (cap : Nat) (w : World) (hs : WfA s) (ht : WfA t) (hr : Row w a b) (hn : a = none → cap = 0) (hz : pairP s t = true) (h8 : 8 ≤ b.length) (hm : (b.length : Int) ≤ mostP s.v) :
    Calls Tryd.prog 14 #[.agg (csA s.v s.l), .agg (csA t.v t.l), .slice a b.length cap] w fun E w' => MParseOut w (mparseP s t b) E w' := by
  have K1 : Hid (∀ w, Calls Tryd.prog 27 #[.agg (csA s.v s.l), .agg (csA t.v t.l)] w fun e w' => e = .returned (.bool true) ∧ Away [] w w') := fun w => by rw [← hz]; exact pair_c s t w hs ht
  have HS := Lib.hid hs
  have HT := Lib.hid ht
  have HR := Lib.hid hr
  have hlen := hr.1
  obtain ⟨y, hy⟩ : ∃ y, y = mparseP s t b := ⟨_, rfl⟩
  rw [← hy]
  unfold mparseP at hy
  rw [if_pos hz, if_neg (by omega), if_neg (by omega)] at hy
  have hrm0 := most_bd s.v
  have hl16 : b.length ≤ 65535 := by omega
  have hckb := mck_bd hs ht hr.2.1 hl16
  have KC : Hid (∀ W, Away [] w W → Calls Tryd.prog 37 #[.agg (csA s.v s.l), .agg (csA t.v t.l), .slice a b.length cap] W fun E w' => E = .returned (.int .u16 (mckP s t b)) ∧ Away [] W w') := fun W h => checksum_c s t a b cap W hs ht hz (hr.on h) hn (by omega) hl16
  generalize mckP s t b = ck at *
  obtain ⟨ck0, ck1⟩ := hckb
  obtain ⟨x0, x1, x2, x3, x4, x5, x6, x7, r, rfl⟩ := eight h8
  have hb := hr.2.1
  have q0 := hb.head; have q1 := hb.tail.head; have q2 := hb.tail.tail.head; have q3 := hb.tail.tail.tail.head
  have q4' := hb.tail.tail.tail.tail.head; have q5 := hb.tail.tail.tail.tail.tail.head; have q6 := hb.tail.tail.tail.tail.tail.tail.head; have q7 := hb.tail.tail.tail.tail.tail.tail.tail.head
  rw [show wd (x0 :: x1 :: x2 :: x3 :: x4 :: x5 :: x6 :: x7 :: r) 2 = 256 * x2 + x3 from rfl, show mgP s.v (x0 :: x1 :: x2 :: x3 :: x4 :: x5 :: x6 :: x7 :: r) = ⟨s.v, x0, x1, (256 * x4 + x5) * 65536 + (256 * x6 + x7), r⟩ from rfl] at hy
  obtain ⟨n2, hn2⟩ : ∃ n, n = 256 * x2 + x3 := ⟨_, rfl⟩
  obtain ⟨n4, hn4⟩ : ∃ n, n = (256 * x4 + x5) * 65536 + (256 * x6 + x7) := ⟨_, rfl⟩
  rw [← hn2, ← hn4] at hy
  have v2 : 0 ≤ n2 ∧ n2 ≤ 65535 := by omega
  have v4 : 0 ≤ n4 ∧ n4 ≤ 4294967295 := by omega
  clear q2 q3 q4' q5 q6 q7 hb hrm0
  have N2 := Lib.hid hn2; have N4 := Lib.hid hn4
  clear hn2 hn4
  have hbl : (x0 :: x1 :: x2 :: x3 :: x4 :: x5 :: x6 :: x7 :: r).length = r.length + 8 := rfl
  have HBL := Lib.hid hbl
  generalize hB : x0 :: x1 :: x2 :: x3 :: x4 :: x5 :: x6 :: x7 :: r = B at *
  have HBE := Lib.hid hB.symm
  clear hbl hB
  have h8' : 8 ≤ B.length := by have := HBL.out; omega
  have HY := Lib.hid hy
  clear hy
  clear hs ht hr hz
  go_enter Tryd.func14, Tryd.ntmps14
  go_wp2_with (refine wpList_boxX rfl _ rfl s rfl ?_; refine Hid.out ?_)
  refine Lib.hid ?_
  intro g1 w1 hg1 hb haw
  have HA := Lib.hid haw; have HB := Lib.hid hb
  have hl1 := hb.lt
  clear hb haw
  go_wp2_with (refine wpList_boxX rfl _ rfl t rfl ?_; refine Hid.out ?_)
  refine Lib.hid ?_
  intro g2 w2 hg2 hb haw
  replace HA := Lib.hid (HA.out.on haw); replace HB := Lib.hid (HB.out.on haw); have HC := Lib.hid hb
  have hl2 := hb.lt
  clear hb haw
  go_wp2_with (refine wpList_allocM rfl rfl ?_; refine Hid.out ?_)
  refine Lib.hid ?_
  intro g6 w3 hg6 hb haw
  replace HA := Lib.hid (HA.out.on haw); replace HB := Lib.hid (HB.out.on haw); replace HC := Lib.hid (HC.out.on haw); have HD := Lib.hid hb
  have hl6 := hb.lt
  have hs1 := HA.out.size
  clear hb haw
  go_wp2_with (first | (refine wpList_loadX rfl _ rfl g1 rfl s (by exact HB.out) HS.out ?_) | (refine wpList_loadX rfl _ rfl g2 rfl t (by exact HC.out) HT.out ?_))
  refine (K1.out _).mono ?_
  rintro E w4 ⟨rfl, haw⟩
  replace HA := Lib.hid (HA.out.on haw); replace HB := Lib.hid (HB.out.on haw); replace HC := Lib.hid (HC.out.on haw); replace HD := Lib.hid (HD.out.on haw)
  have hs4 := haw.size
  clear haw K1
  have cv := HB.out.cell
  go_wp2_with fail
  refine (most_c s.v _).mono ?_
  rintro E w5 ⟨rfl, rfl⟩
  have hrm := most_bd s.v
  generalize mostP s.v = rm at *
  go_wp2_with fail
  refine (newReader_any a B _ cap _ rfl hn (by exact HR.out.on HA.out)).mono ?_
  rintro E w6 ⟨gr, d, rfl, hrd, hgr, hgd, haw⟩
  replace HA := Lib.hid (HA.out.on haw); replace HB := Lib.hid (HB.out.on haw); replace HC := Lib.hid (HC.out.on haw); replace HD := Lib.hid (HD.out.on haw)
  have HRD := Lib.hid hrd
  obtain ⟨hlr, hld⟩ := hrd.lt
  clear haw hrd cv
  have cv := HB.out.cell
  go_wp2_with (refine wpList_newM rfl rfl rfl _ _ rfl ⟨s.v, 0, 0, 0, []⟩ (.slice none 0 0) (fun _ => rfl) (fun _ => rfl) rfl ?_; refine Hid.out ?_)
  refine Lib.hid ?_
  intro g9 w7 hg9 hb haw
  have HP : Hid (Rp w w7 g1 g2 g6 g9 gr d s t ⟨s.v, 0, 0, 0, []⟩ (.slice none 0 0) B) := ⟨HA.out.on haw, HB.out.on haw, HC.out.on haw, HD.out.on haw, hb, HRD.out.away haw (by simp) (by simp), ⟨by omega, by omega, by omega⟩, ⟨by omega, by omega, by omega, by omega, by omega, by omega, by omega, by omega⟩⟩
  have hl9 := hb.lt
  clear hb haw HA HB HC HD HRD cv
  rw [HBE.out] at HP
  go_wp2_with fail
  refine (u8_one _ gr d x0 (x1 :: x2 :: x3 :: x4 :: x5 :: x6 :: x7 :: r) (by exact HP.out.rd)).mono ?_
  rintro E w' ⟨rfl, hrd, haw⟩
  replace HP := Lib.hid (HP.out.read hrd haw)
  clear hrd haw
  have hc := HP.out.b9.c1; have hf := HP.out.b9.free 1
  replace HP := Lib.hid (HP.out.put 1 (.int .i64 x0) (g' := ⟨s.v, x0, 0, 0, []⟩) (dv' := .slice none 0 0) rfl)
  go_upto_region 10 with fail
  clear hc hf
  generalize World.setCell _ ⟨g9, 1, none⟩ (.int .i64 x0) = w' at *
  go_wp2_with fail
  refine (u8_one _ gr d x1 (x2 :: x3 :: x4 :: x5 :: x6 :: x7 :: r) (by exact HP.out.rd)).mono ?_
  rintro E w' ⟨rfl, hrd, haw⟩
  replace HP := Lib.hid (HP.out.read hrd haw)
  clear hrd haw
  have hc := HP.out.b9.c2; have hf := HP.out.b9.free 2
  replace HP := Lib.hid (HP.out.put 2 (.int .i64 x1) (g' := ⟨s.v, x0, x1, 0, []⟩) (dv' := .slice none 0 0) rfl)
  go_upto_region 11 with fail
  clear hc hf
  generalize World.setCell _ ⟨g9, 2, none⟩ (.int .i64 x1) = w' at *
  go_wp2_with fail
  refine (u16_two _ gr d x2 x3 (x4 :: x5 :: x6 :: x7 :: r) n2 N2.out (by exact HP.out.rd)).mono ?_
  rintro E w' ⟨rfl, hrd, haw⟩
  replace HP := Lib.hid (HP.out.read hrd haw)
  clear hrd haw
  go_wp2_with fail
  refine (u32_four _ gr d x4 x5 x6 x7 r n4 N4.out (by exact HP.out.rd)).mono ?_
  rintro E w' ⟨rfl, hrd, haw⟩
  replace HP := Lib.hid (HP.out.read hrd haw)
  clear hrd haw
  have hc := HP.out.b9.c3; have hf := HP.out.b9.free 3
  replace HP := Lib.hid (HP.out.put 3 (.int .u32 n4) (g' := ⟨s.v, x0, x1, n4, []⟩) (dv' := .slice none 0 0) rfl)
  go_upto_region 13 with fail
  clear hc hf
  generalize World.setCell _ ⟨g9, 3, none⟩ (.int .u32 n4) = w' at *
  go_wp2_with fail
  refine (left_any _ gr d r 0 (by exact HP.out.rd)).mono ?_
  rintro E w' ⟨rfl, rfl⟩
  go_wp2_with fail
  refine (bytes_any _ gr d r 0 r.length (by exact HP.out.rd)).mono ?_
  obtain ⟨e1, e2, e3⟩ := rdAll r
  rw [e1, e2, e3]
  clear e1 e2 e3
  rintro E w8 ⟨vd, rfl, hown, hnew, hrd, haw, -, -⟩
  have hs8 := HP.out.aw.size
  have hl91 := HP.out.b9.lt
  have hl61 := HP.out.b6.lt
  replace HP := Lib.hid (HP.out.read hrd haw)
  have HO := Lib.hid hown
  have HN := Lib.hid hnew
  clear hown hrd haw hnew
  obtain ⟨va, vn, vc, rfl⟩ := HO.out.shp
  have hc := HP.out.b9.c4; have hf := HP.out.b9.free 4
  replace HO := Lib.hid (HO.out.away (away_put (w := w8) (g := g9) 4 (.slice va vn vc)) (fun k hk => by have := HN.out k hk; simp; omega))
  replace HP := Lib.hid (HP.out.put 4 (.slice va vn vc) (g' := ⟨s.v, x0, x1, n4, r⟩) (dv' := .slice va vn vc) rfl)
  go_upto_region 14 with fail
  clear hc hf
  generalize World.setCell _ ⟨g9, 4, none⟩ (.slice va vn vc) = w9 at *
  go_wp2_with (first | (refine wpList_loadX rfl _ rfl g1 rfl s (by exact HP.out.b1) HS.out ?_) | (refine wpList_loadX rfl _ rfl g2 rfl t (by exact HP.out.b2) HT.out ?_))
  refine (KC.out _ HP.out.aw).mono ?_
  rintro E w10 ⟨rfl, haw⟩
  replace HP := Lib.hid (HP.out.on haw)
  replace HO := Lib.hid (HO.out.on haw)
  clear haw KC
  by_cases hk : n2 = ck
  · rw [if_pos hk] at HY
    have hk' : (n2 != ck) = false := by simpa using hk
    clear hk
    go_upto_region 16 with fail
    go_wp2_with (first | (refine wpList_loadM rfl _ rfl g9 rfl ⟨s.v, x0, x1, n4, r⟩ (.slice va vn vc) (by exact HP.out.b9) ?_) | (refine wpList_storeM rfl _ _ rfl g6 rfl ⟨s.v, x0, x1, n4, r⟩ (.slice va vn vc) rfl zeroMg (.slice none 0 0) (by exact HP.out.b6) rfl ?_; refine Hid.out ?_))
    refine Lib.hid ?_
    intro wz hb haw
    have HZ := Lib.hid hb
    have HA : Hid (Away [] w wz) := HP.out.aw.next haw (fun x hx => .inr (by have := HP.out.le.2.2; simp at hx; omega))
    have HOZ := Lib.hid (HO.out.away haw (fun k hk => by have := HN.out k hk; simp; omega))
    clear hb haw
    go_wp2_with fail
    refine bodyPost_ret (resultMt rfl _ _ _ _ _ _ rfl rfl HZ.out) rfl ?_
    rw [HY.out]
    exact ⟨_, rfl, HOZ.out, HN.out.mono (by omega), HA.out⟩
  · rw [if_neg hk] at HY
    have hk' : (n2 != ck) = true := by simpa using hk
    have HK := Lib.hid hk
    clear hk
    go_upto_region 15 with fail
    go_wp2_with (refine wpList_storeM rfl _ _ rfl g6 rfl zeroMg (.slice none 0 0) rfl zeroMg (.slice none 0 0) (by exact HP.out.b6) rfl ?_; refine Hid.out ?_)
    refine Lib.hid ?_
    intro wz hb haw
    have HZ := Lib.hid hb
    have HA : Hid (Away [] w wz) := HP.out.aw.next haw (fun x hx => .inr (by have := HP.out.le.2.2; simp at hx; omega))
    clear hb haw
    go_wp2_with fail
    refine bodyPost_ret (resultMt rfl _ _ _ _ _ _ rfl rfl HZ.out) rfl ?_
    rw [HY.out]
    exact ⟨_, rfl, Owns.nil _, New.nil _, HA.out⟩
theorem mparse_c (s t : Ax) (a : Option Addr) (b : List Int) (cap : Nat) (w : World) (hs : WfA s) (ht : WfA t) (hr : Row w a b) (hn : a = none → cap = 0) :
    Calls Tryd.prog 14 #[.agg (csA s.v s.l), .agg (csA t.v t.l), .slice a b.length cap] w fun E w' => MParseOut w (mparseP s t b) E w' := by
  cases hz : pairP s t
  · rw [show mparseP s t b = (zeroMg, 1) from by unfold mparseP; rw [if_neg (by simp [hz])]]
    exact parse_no1 s t a b cap w hs ht hr hn hz
  · by_cases h8 : b.length < 8
    · rw [show mparseP s t b = (zeroMg, 20) from by unfold mparseP; rw [if_pos hz, if_pos h8]]
      exact parse_no2 s t a b cap w hs ht hr hn hz h8
    · by_cases hm : (b.length : Int) ≤ mostP s.v
      · exact parse_long s t a b cap w hs ht hr hn hz (by omega) hm
      · rw [show mparseP s t b = (zeroMg, 3) from by unfold mparseP; rw [if_pos hz, if_neg h8, if_pos (by omega)]]
        exact parse_no3 s t a b cap w hs ht hr hn hz (by omega) (by omega)
#print axioms mparse_c
end Go.Proofs.YtbgpjhekohabiaaDoor
