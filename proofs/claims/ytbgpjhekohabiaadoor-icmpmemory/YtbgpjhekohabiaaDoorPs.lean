/-
  Add of sum; word, room, pair, Pseudo, part, checksum of udp.
-/
import Derived.Test.YtbgpjhekohabiaaDoorDgx
import Derived.Test.YtbgpjhekohabiaaDoorWrite
import Derived.Test.YtbgpjhekohabiaaDoorOf
namespace Go.Proofs.YtbgpjhekohabiaaDoor
open Go.ChangeShapes Go.WideShapes Go.ChangeAt Go.RowKit Num
set_option linter.unusedVariables false
set_option maxHeartbeats 4000000
set_option maxRecDepth 100000

theorem add_any (a b : Int) (ha : 0 ≤ a) (ha' : a ≤ 65535) (hb : 0 ≤ b) (hb' : b ≤ 65535) (w : World) :
    Calls Tryd.prog 66 #[.int .u16 a, .int .u16 b] w fun e w' => e = .returned (.int .u16 (add a b)) ∧ w' = w := by
  go_enter Tryd.func66, Tryd.ntmps66
  go_wp2_with (go_at_call 85; refine (fold_any _ (by omega) (by omega) _).mono ?_; rintro e w' ⟨rfl, rfl⟩)
  go_ret
  exact ⟨rfl, rfl⟩
theorem word_c (n : Int) (w : World) : Calls Tryd.prog 84 #[.int .i64 n] w fun e w' => e = .returned (.bool (wordP n)) ∧ w' = w := by
  by_cases h0 : 0 ≤ n
  · by_cases h1 : n ≤ 65535
    · rw [show wordP n = true from word_iff.2 ⟨h0, h1⟩]
      go_enter Tryd.func84, Tryd.ntmps84
      go_wp2
      go_ret
      exact ⟨rfl, rfl⟩
    · rw [show wordP n = false from by simp [wordP, h1]]
      go_enter Tryd.func84, Tryd.ntmps84
      go_wp2
      go_ret
      exact ⟨rfl, rfl⟩
  · rw [show wordP n = false from by simp [wordP, h0]]
    have h2 : n < 0 := by omega
    clear h0
    go_enter Tryd.func84, Tryd.ntmps84
    go_wp2
    go_ret
    exact ⟨rfl, rfl⟩
theorem upair_c (s t : Ax) (w : World) (hs : WfA s) (ht : WfA t) : Calls Tryd.prog 83 #[.agg (csA s.v s.l), .agg (csA t.v t.l)] w fun e w' => e = .returned (.bool (pairP s t)) ∧ Away [] w w' := by
  have K1 : Hid (∀ w, Calls Tryd.prog 62 #[.agg (csA s.v s.l)] w fun e w' => e = .returned (.bool (avalidP s.v s.l)) ∧ Below w.heap.size w w') := fun w => avalid_c s.v s.l hs.n w
  have K2 : Hid (∀ w, Calls Tryd.prog 62 #[.agg (csA t.v t.l)] w fun e w' => e = .returned (.bool (avalidP t.v t.l)) ∧ Below w.heap.size w w') := fun w => avalid_c t.v t.l ht.n w
  have HS := Lib.hid hs
  have HT := Lib.hid ht
  obtain ⟨z3, hz⟩ : ∃ z, z = decide (s.v = t.v) := ⟨_, rfl⟩
  unfold pairP
  rw [← hz]
  have HZ := Lib.hid hz
  clear hz
  generalize avalidP s.v s.l = z1 at *
  generalize avalidP t.v t.l = z2 at *
  clear hs ht
  go_enter Tryd.func83, Tryd.ntmps83
  go_wp2_with (refine wpList_boxX rfl _ rfl s rfl ?_; refine Hid.out ?_)
  refine Lib.hid ?_
  intro g1 w1 hg1 hb haw
  have HA := Lib.hid haw; have HB := Lib.hid hb
  clear hb haw
  go_wp2_with (refine wpList_boxX rfl _ rfl t rfl ?_; refine Hid.out ?_)
  refine Lib.hid ?_
  intro g2 w2 hg2 hb haw
  replace HA := Lib.hid (HA.out.on haw); replace HB := Lib.hid (HB.out.on haw); have HC := Lib.hid hb
  clear hb haw
  go_wp2_with (first | (refine wpList_loadX rfl _ rfl g1 rfl s (by exact HB.out) HS.out ?_) | (refine wpList_loadX rfl _ rfl g2 rfl t (by exact HC.out) HT.out ?_))
  refine (K1.out _).mono ?_
  rintro E w3 ⟨rfl, hbl⟩
  have haw := Away.of_below hbl
  replace HA := Lib.hid (HA.out.on haw); replace HB := Lib.hid (HB.out.on haw); replace HC := Lib.hid (HC.out.on haw)
  clear haw hbl K1
  cases z1
  · go_wp2_with fail
    go_ret
    exact ⟨rfl, HA.out⟩
  · go_wp2_with (first | (refine wpList_loadX rfl _ rfl g1 rfl s (by exact HB.out) HS.out ?_) | (refine wpList_loadX rfl _ rfl g2 rfl t (by exact HC.out) HT.out ?_))
    refine (K2.out _).mono ?_
    rintro E w4 ⟨rfl, hbl⟩
    have haw := Away.of_below hbl
    replace HA := Lib.hid (HA.out.on haw); replace HB := Lib.hid (HB.out.on haw); replace HC := Lib.hid (HC.out.on haw)
    clear haw hbl K2
    cases z2
    · go_wp2_with fail
      go_ret
      exact ⟨rfl, HA.out⟩
    · have c1 := HB.out.cell
      have c2 := HC.out.cell
      go_wp2_with fail
      go_ret
      exact ⟨ret_bool (by rw [HZ.out]; rfl), HA.out⟩

/-- A writer of the call's own, beside blocks that it keeps. -/
structure Wk (w wx : World) (K : List Nat) (gw : Nat) (v : Value) (lim : Int) (l : List Int) : Prop where
  aw : Away [] w wx
  wr : Wr wx gw v lim l 0
  new : New w.heap.size v
  gB : w.heap.size ≤ gw
  ap : ∀ k ∈ K, k ≠ gw ∧ v.ownBlock ≠ some k ∧ k < wx.heap.size
theorem Wk.step {w wx w' : World} {K : List Nat} {gw : Nat} {v : Value} {lim : Int} {l m : List Int} {E : Ending} (h : Wk w wx K gw v lim l) (k : Wrote wx gw v lim m 0 E w') :
    E = .returned (.tuple #[]) ∧ ∃ v', Wk w w' K gw v' lim m ∧ ∀ k ∈ K, w'.heap[k]? = wx.heap[k]? := by
  obtain ⟨rfl, v', hwr, hmv, haw⟩ := k
  have hs := h.aw.size
  have hfp : ∀ x ∈ fp gw v, x = gw ∨ v.ownBlock = some x := by intro x hx; simp [fp] at hx; exact hx
  refine ⟨rfl, v', ⟨h.aw.next haw (fun x hx => ?_), hwr, h.new.moved hmv hs, h.gB, fun k hk => ⟨(h.ap k hk).1, fun e => ?_, Nat.lt_of_lt_of_le (h.ap k hk).2.2 haw.size⟩⟩, fun k hk => haw.block k (h.ap k hk).2.2 (fun hx => ?_)⟩
  · rcases hfp x hx with e | e
    · right; rw [e]; exact h.gB
    · right; exact h.new _ e
  · rcases hmv k e with e | e
    · exact (h.ap k hk).2.1 e
    · have := (h.ap k hk).2.2; omega
  · rcases hfp _ hx with e | e
    · exact (h.ap k hk).1 e
    · exact (h.ap k hk).2.1 e
theorem Wk.begin {w wx w' : World} {E : Ending} {lim : Int} (K : List Nat) (h : Began wx lim E w') (haw : Away [] w wx) (hK : ∀ k ∈ K, k < wx.heap.size) :
    ∃ gw v, E = .returned (.pointer (some ⟨gw, 0, none⟩)) ∧ Wk w w' K gw v lim [] ∧ Away [] wx w' := by
  obtain ⟨gw, v, rfl, hwr, hg, hv, ha⟩ := h
  have hs := haw.size
  have hs' := ha.size
  refine ⟨gw, v, rfl, ⟨haw.on ha, hwr, fun k hk => by rw [hv] at hk; simp at hk, by omega, fun k hk => ⟨by have := hK k hk; omega, by rw [hv]; simp, by have := hK k hk; omega⟩⟩, ha⟩
theorem wrFit {l m : List Int} {lim : Int} (h : (l.length : Int) + m.length ≤ lim) : wrAll l 0 lim m = l ++ m := by unfold wrAll; rw [if_pos ⟨rfl, h⟩]
theorem wrFitE {l : List Int} {lim n : Int} (h : (l.length : Int) + n ≤ lim) : wrErr l 0 lim n = 0 := by unfold wrErr; rw [if_pos rfl, if_pos h]
/-- What Pseudo tells. -/
def PsOut (w : World) (r : Int × Int) (E : Ending) (w' : World) : Prop := E = .returned (.tuple #[.int .u16 r.1, .int .i64 r.2]) ∧ Away [] w w'
theorem pseudo_no1 (s t : Ax) (proto n : Int) (w : World) (hs : WfA s) (ht : WfA t) (hz : pairP s t = false) :
    Calls Tryd.prog 65 #[.agg (csA s.v s.l), .agg (csA t.v t.l), .int .i64 proto, .int .i64 n] w fun E w' => PsOut w (0, 1) E w' := by
  have K1 : Hid (∀ w, Calls Tryd.prog 83 #[.agg (csA s.v s.l), .agg (csA t.v t.l)] w fun e w' => e = .returned (.bool false) ∧ Away [] w w') := fun w => by rw [← hz]; exact upair_c s t w hs ht
  have HS := Lib.hid hs
  have HT := Lib.hid ht
  clear hs ht hz
  go_enter Tryd.func65, Tryd.ntmps65
  go_wp2_with (refine wpList_boxX rfl _ rfl s rfl ?_; refine Hid.out ?_)
  refine Lib.hid ?_
  intro g1 w1 hg1 hb haw
  have HA := Lib.hid haw; have HB := Lib.hid hb
  clear hb haw
  go_wp2_with (refine wpList_boxX rfl _ rfl t rfl ?_; refine Hid.out ?_)
  refine Lib.hid ?_
  intro g2 w2 hg2 hb haw
  replace HA := Lib.hid (HA.out.on haw); replace HB := Lib.hid (HB.out.on haw); have HC := Lib.hid hb
  have hl2 := hb.lt
  have hl1 := HB.out.lt
  clear hb haw
  go_wp2_with (first | (refine wpList_loadX rfl _ rfl g1 rfl s (by exact HB.out) HS.out ?_) | (refine wpList_loadX rfl _ rfl g2 rfl t (by exact HC.out) HT.out ?_))
  refine (K1.out _).mono ?_
  rintro E w3 ⟨rfl, haw⟩
  replace HA := Lib.hid (HA.out.on haw); replace HB := Lib.hid (HB.out.on haw); replace HC := Lib.hid (HC.out.on haw)
  have hs3 := haw.size
  clear haw K1
  go_wp2_with fail
  go_ret2
  exact ⟨rfl, HA.out⟩
theorem pseudo_no2 (s t : Ax) (proto n : Int) (w : World) (hs : WfA s) (ht : WfA t) (hz : pairP s t = true) (h : proto < 0) :
    Calls Tryd.prog 65 #[.agg (csA s.v s.l), .agg (csA t.v t.l), .int .i64 proto, .int .i64 n] w fun E w' => PsOut w (0, 1) E w' := by
  have K1 : Hid (∀ w, Calls Tryd.prog 83 #[.agg (csA s.v s.l), .agg (csA t.v t.l)] w fun e w' => e = .returned (.bool true) ∧ Away [] w w') := fun w => by rw [← hz]; exact upair_c s t w hs ht
  have HS := Lib.hid hs
  have HT := Lib.hid ht
  clear hs ht hz
  go_enter Tryd.func65, Tryd.ntmps65
  go_wp2_with (refine wpList_boxX rfl _ rfl s rfl ?_; refine Hid.out ?_)
  refine Lib.hid ?_
  intro g1 w1 hg1 hb haw
  have HA := Lib.hid haw; have HB := Lib.hid hb
  clear hb haw
  go_wp2_with (refine wpList_boxX rfl _ rfl t rfl ?_; refine Hid.out ?_)
  refine Lib.hid ?_
  intro g2 w2 hg2 hb haw
  replace HA := Lib.hid (HA.out.on haw); replace HB := Lib.hid (HB.out.on haw); have HC := Lib.hid hb
  have hl2 := hb.lt
  have hl1 := HB.out.lt
  clear hb haw
  go_wp2_with (first | (refine wpList_loadX rfl _ rfl g1 rfl s (by exact HB.out) HS.out ?_) | (refine wpList_loadX rfl _ rfl g2 rfl t (by exact HC.out) HT.out ?_))
  refine (K1.out _).mono ?_
  rintro E w3 ⟨rfl, haw⟩
  replace HA := Lib.hid (HA.out.on haw); replace HB := Lib.hid (HB.out.on haw); replace HC := Lib.hid (HC.out.on haw)
  have hs3 := haw.size
  clear haw K1
  go_wp2_with fail
  go_ret2
  exact ⟨rfl, HA.out⟩
theorem pseudo_no3 (s t : Ax) (proto n : Int) (w : World) (hs : WfA s) (ht : WfA t) (hz : pairP s t = true) (h0 : 0 ≤ proto) (h : 255 < proto) :
    Calls Tryd.prog 65 #[.agg (csA s.v s.l), .agg (csA t.v t.l), .int .i64 proto, .int .i64 n] w fun E w' => PsOut w (0, 1) E w' := by
  have K1 : Hid (∀ w, Calls Tryd.prog 83 #[.agg (csA s.v s.l), .agg (csA t.v t.l)] w fun e w' => e = .returned (.bool true) ∧ Away [] w w') := fun w => by rw [← hz]; exact upair_c s t w hs ht
  have HS := Lib.hid hs
  have HT := Lib.hid ht
  clear hs ht hz
  go_enter Tryd.func65, Tryd.ntmps65
  go_wp2_with (refine wpList_boxX rfl _ rfl s rfl ?_; refine Hid.out ?_)
  refine Lib.hid ?_
  intro g1 w1 hg1 hb haw
  have HA := Lib.hid haw; have HB := Lib.hid hb
  clear hb haw
  go_wp2_with (refine wpList_boxX rfl _ rfl t rfl ?_; refine Hid.out ?_)
  refine Lib.hid ?_
  intro g2 w2 hg2 hb haw
  replace HA := Lib.hid (HA.out.on haw); replace HB := Lib.hid (HB.out.on haw); have HC := Lib.hid hb
  have hl2 := hb.lt
  have hl1 := HB.out.lt
  clear hb haw
  go_wp2_with (first | (refine wpList_loadX rfl _ rfl g1 rfl s (by exact HB.out) HS.out ?_) | (refine wpList_loadX rfl _ rfl g2 rfl t (by exact HC.out) HT.out ?_))
  refine (K1.out _).mono ?_
  rintro E w3 ⟨rfl, haw⟩
  replace HA := Lib.hid (HA.out.on haw); replace HB := Lib.hid (HB.out.on haw); replace HC := Lib.hid (HC.out.on haw)
  have hs3 := haw.size
  clear haw K1
  go_wp2_with fail
  go_ret2
  exact ⟨rfl, HA.out⟩
theorem pseudo_no4 (s t : Ax) (proto n : Int) (w : World) (hs : WfA s) (ht : WfA t) (hz : pairP s t = true) (h0 : 0 ≤ proto) (h : proto ≤ 255) (hn : wordP n = false) :
    Calls Tryd.prog 65 #[.agg (csA s.v s.l), .agg (csA t.v t.l), .int .i64 proto, .int .i64 n] w fun E w' => PsOut w (0, 1) E w' := by
  have K1 : Hid (∀ w, Calls Tryd.prog 83 #[.agg (csA s.v s.l), .agg (csA t.v t.l)] w fun e w' => e = .returned (.bool true) ∧ Away [] w w') := fun w => by rw [← hz]; exact upair_c s t w hs ht
  have HS := Lib.hid hs
  have HT := Lib.hid ht
  have K2 : Hid (∀ w, Calls Tryd.prog 84 #[.int .i64 n] w fun e w' => e = .returned (.bool false) ∧ w' = w) := fun w => by rw [← hn]; exact word_c n w
  clear hn
  clear hs ht hz
  go_enter Tryd.func65, Tryd.ntmps65
  go_wp2_with (refine wpList_boxX rfl _ rfl s rfl ?_; refine Hid.out ?_)
  refine Lib.hid ?_
  intro g1 w1 hg1 hb haw
  have HA := Lib.hid haw; have HB := Lib.hid hb
  clear hb haw
  go_wp2_with (refine wpList_boxX rfl _ rfl t rfl ?_; refine Hid.out ?_)
  refine Lib.hid ?_
  intro g2 w2 hg2 hb haw
  replace HA := Lib.hid (HA.out.on haw); replace HB := Lib.hid (HB.out.on haw); have HC := Lib.hid hb
  have hl2 := hb.lt
  have hl1 := HB.out.lt
  clear hb haw
  go_wp2_with (first | (refine wpList_loadX rfl _ rfl g1 rfl s (by exact HB.out) HS.out ?_) | (refine wpList_loadX rfl _ rfl g2 rfl t (by exact HC.out) HT.out ?_))
  refine (K1.out _).mono ?_
  rintro E w3 ⟨rfl, haw⟩
  replace HA := Lib.hid (HA.out.on haw); replace HB := Lib.hid (HB.out.on haw); replace HC := Lib.hid (HC.out.on haw)
  have hs3 := haw.size
  clear haw K1
  go_wp2_with fail
  refine (K2.out _).mono ?_
  rintro E w4 ⟨rfl, rfl⟩
  go_wp2_with fail
  go_ret2
  exact ⟨rfl, HA.out⟩
theorem pseudo_yes (s t : Ax) (proto n : Int) (w : World) (hs : WfA s) (ht : WfA t) (hz : pairP s t = true) (h0 : 0 ≤ proto) (h1 : proto ≤ 255) (hn : wordP n = true) :
    Calls Tryd.prog 65 #[.agg (csA s.v s.l), .agg (csA t.v t.l), .int .i64 proto, .int .i64 n] w fun E w' => PsOut w (pt (psb s t proto n), 0) E w' := by
  have K1 : Hid (∀ w, Calls Tryd.prog 83 #[.agg (csA s.v s.l), .agg (csA t.v t.l)] w fun e w' => e = .returned (.bool true) ∧ Away [] w w') := fun w => by rw [← hz]; exact upair_c s t w hs ht
  have HS := Lib.hid hs
  have HT := Lib.hid ht
  have K2 : Hid (∀ w, Calls Tryd.prog 84 #[.int .i64 n] w fun e w' => e = .returned (.bool true) ∧ w' = w) := fun w => by rw [← hn]; exact word_c n w
  obtain ⟨n0, n1⟩ := word_iff.1 hn
  have hv := (pair_v hz).2
  have e4 : s.v = 4 → psb s t proto n = (((([] ++ s.l.take 4) ++ t.l.take 4) ++ [proto / 256, proto % 256]) ++ [n / 256, n % 256]) := by
    intro h; unfold psb; rw [if_pos h, show proto / 256 = 0 by omega, show proto % 256 = proto by omega]; simp
  have e6 : s.v = 6 → psb s t proto n = (((([] ++ s.l) ++ t.l) ++ [n / 16777216, n / 65536 % 256, n / 256 % 256, n % 256]) ++ [proto / 16777216, proto / 65536 % 256, proto / 256 % 256, proto % 256]) := by
    intro h; unfold psb; rw [if_neg (by omega), show n / 16777216 = 0 by omega, show n / 65536 % 256 = 0 by omega, show n / 256 % 256 = n / 256 by omega, show proto / 16777216 = 0 by omega, show proto / 65536 % 256 = 0 by omega, show proto / 256 % 256 = 0 by omega, show proto % 256 = proto by omega]; simp
  have E4 := Lib.hid e4; have E6 := Lib.hid e6
  have HPB := Lib.hid (psb_bytes hs ht h0 h1 n0 n1)
  have hl4 : (s.l.take 4).length = 4 := by simp [hs.n]
  have hm4 : (t.l.take 4).length = 4 := by simp [ht.n]
  have hl16 := hs.n
  have hm16 := ht.n
  have HPL := Lib.hid (psb_len hs ht proto n)
  clear hs ht hz hn e4 e6
  go_enter Tryd.func65, Tryd.ntmps65
  go_wp2_with (refine wpList_boxX rfl _ rfl s rfl ?_; refine Hid.out ?_)
  refine Lib.hid ?_
  intro g1 w1 hg1 hb haw
  have HA := Lib.hid haw; have HB := Lib.hid hb
  clear hb haw
  go_wp2_with (refine wpList_boxX rfl _ rfl t rfl ?_; refine Hid.out ?_)
  refine Lib.hid ?_
  intro g2 w2 hg2 hb haw
  replace HA := Lib.hid (HA.out.on haw); replace HB := Lib.hid (HB.out.on haw); have HC := Lib.hid hb
  have hl2 := hb.lt
  have hl1 := HB.out.lt
  clear hb haw
  go_wp2_with (first | (refine wpList_loadX rfl _ rfl g1 rfl s (by exact HB.out) HS.out ?_) | (refine wpList_loadX rfl _ rfl g2 rfl t (by exact HC.out) HT.out ?_))
  refine (K1.out _).mono ?_
  rintro E w3 ⟨rfl, haw⟩
  replace HA := Lib.hid (HA.out.on haw); replace HB := Lib.hid (HB.out.on haw); replace HC := Lib.hid (HC.out.on haw)
  have hs3 := haw.size
  clear haw K1
  go_wp2_with fail
  refine (K2.out _).mono ?_
  rintro E w4 ⟨rfl, rfl⟩
  go_wp2_with fail
  refine (newWriter_any 40 _ (by omega) (by omega)).mono ?_
  intro E w5 hbe
  rw [show limOf 40 = 40 from by decide] at hbe
  obtain ⟨gw, v, rfl, hL, haw⟩ := Wk.begin [g1, g2] hbe (by exact HA.out) (by simp; omega)
  have HL := Lib.hid hL
  replace HB := Lib.hid (HB.out.on haw); replace HC := Lib.hid (HC.out.on haw)
  have c1 := HB.out.cell
  clear hL haw hbe HA K2
  rcases hv with hv | hv
  · rw [hv] at c1
    go_wp2_with fail
    refine (wbytes_any _ gw _ 40 _ 0 (some ⟨g1, 1, none⟩) (s.l.take 4) 4 16 (by exact HL.out.wr) hl4 (by simp) (by exact HB.out.row4 HS.out)).mono ?_
    rw [wrFit (by (try simp only [List.length_append]); (try simp only [List.length_cons]); (try simp only [List.length_nil]); omega), wrFitE (by (try simp only [List.length_append]); (try simp only [List.length_cons]); (try simp only [List.length_nil]); omega)]
    intro E w' hk
    obtain ⟨rfl, v', hL, hkeep⟩ := HL.out.step hk
    replace HL := Lib.hid hL
    replace HB : Hid (BoxX w' g1 s) := (hkeep g1 (by simp)).trans HB.out
    replace HC : Hid (BoxX w' g2 t) := (hkeep g2 (by simp)).trans HC.out
    clear hL hkeep hk
    go_wp2_with fail
    refine (wbytes_any _ gw _ 40 _ 0 (some ⟨g2, 1, none⟩) (t.l.take 4) 4 16 (by exact HL.out.wr) hm4 (by simp) (by exact HC.out.row4 HT.out)).mono ?_
    rw [wrFit (by (try simp only [List.length_append]); (try simp only [List.length_cons]); (try simp only [List.length_nil]); omega), wrFitE (by (try simp only [List.length_append]); (try simp only [List.length_cons]); (try simp only [List.length_nil]); omega)]
    intro E w' hk
    obtain ⟨rfl, v', hL, hkeep⟩ := HL.out.step hk
    replace HL := Lib.hid hL
    replace HB : Hid (BoxX w' g1 s) := (hkeep g1 (by simp)).trans HB.out
    replace HC : Hid (BoxX w' g2 t) := (hkeep g2 (by simp)).trans HC.out
    clear hL hkeep hk
    go_wp2_with fail
    refine (w16_any _ gw _ 40 _ 0 proto (by exact HL.out.wr) (by omega) (by omega)).mono ?_
    rw [wrFit (by (try simp only [List.length_append]); (try simp only [List.length_cons]); (try simp only [List.length_nil]); omega), wrFitE (by (try simp only [List.length_append]); (try simp only [List.length_cons]); (try simp only [List.length_nil]); omega)]
    intro E w' hk
    obtain ⟨rfl, v', hL, hkeep⟩ := HL.out.step hk
    replace HL := Lib.hid hL
    replace HB : Hid (BoxX w' g1 s) := (hkeep g1 (by simp)).trans HB.out
    replace HC : Hid (BoxX w' g2 t) := (hkeep g2 (by simp)).trans HC.out
    clear hL hkeep hk
    go_wp2_with fail
    refine (w16_any _ gw _ 40 _ 0 n (by exact HL.out.wr) (by omega) (by omega)).mono ?_
    rw [wrFit (by (try simp only [List.length_append]); (try simp only [List.length_cons]); (try simp only [List.length_nil]); omega), wrFitE (by (try simp only [List.length_append]); (try simp only [List.length_cons]); (try simp only [List.length_nil]); omega)]
    intro E w' hk
    obtain ⟨rfl, v', hL, hkeep⟩ := HL.out.step hk
    replace HL := Lib.hid hL
    replace HB : Hid (BoxX w' g1 s) := (hkeep g1 (by simp)).trans HB.out
    replace HC : Hid (BoxX w' g2 t) := (hkeep g2 (by simp)).trans HC.out
    clear hL hkeep hk
    go_wp2_with fail
    refine (out_any _ gw _ 40 _ 0 (by exact HL.out.wr)).mono ?_
    rintro E w6 ⟨vo, rfl, hown, hnew, haw⟩
    rw [show ∀ l, wrOut l 0 = l from fun l => by unfold wrOut; rw [if_pos rfl], ← E4.out hv] at hown
    have HA : Hid (Away [] w w6) := HL.out.aw.on haw
    obtain ⟨ao, co, rfl, ho1, ho2, ho3, _⟩ := hown.row (by rw [HPL.out]; split <;> omega) HPB.out
    have HO := Lib.hid ho3
    clear haw hown hnew ho3
    go_wp2_with fail
    refine (part_any ao _ co ho1 _ (by exact HO.out)).mono ?_
    rintro E w7 ⟨rfl, k, rfl⟩
    go_wp2_with fail
    go_ret2
    exact ⟨rfl, HA.out.drewN k⟩
  · rw [hv] at c1
    go_wp2_with fail
    refine (wbytes_any _ gw _ 40 _ 0 (some ⟨g1, 1, none⟩) s.l 16 16 (by exact HL.out.wr) hl16 (by simp) (by exact HB.out.row HS.out)).mono ?_
    rw [wrFit (by (try simp only [List.length_append]); (try simp only [List.length_cons]); (try simp only [List.length_nil]); omega), wrFitE (by (try simp only [List.length_append]); (try simp only [List.length_cons]); (try simp only [List.length_nil]); omega)]
    intro E w' hk
    obtain ⟨rfl, v', hL, hkeep⟩ := HL.out.step hk
    replace HL := Lib.hid hL
    replace HB : Hid (BoxX w' g1 s) := (hkeep g1 (by simp)).trans HB.out
    replace HC : Hid (BoxX w' g2 t) := (hkeep g2 (by simp)).trans HC.out
    clear hL hkeep hk
    go_wp2_with fail
    refine (wbytes_any _ gw _ 40 _ 0 (some ⟨g2, 1, none⟩) t.l 16 16 (by exact HL.out.wr) hm16 (by simp) (by exact HC.out.row HT.out)).mono ?_
    rw [wrFit (by (try simp only [List.length_append]); (try simp only [List.length_cons]); (try simp only [List.length_nil]); omega), wrFitE (by (try simp only [List.length_append]); (try simp only [List.length_cons]); (try simp only [List.length_nil]); omega)]
    intro E w' hk
    obtain ⟨rfl, v', hL, hkeep⟩ := HL.out.step hk
    replace HL := Lib.hid hL
    replace HB : Hid (BoxX w' g1 s) := (hkeep g1 (by simp)).trans HB.out
    replace HC : Hid (BoxX w' g2 t) := (hkeep g2 (by simp)).trans HC.out
    clear hL hkeep hk
    go_wp2_with fail
    refine (w32_any _ gw _ 40 _ 0 n (by exact HL.out.wr) (by omega) (by omega)).mono ?_
    rw [wrFit (by (try simp only [List.length_append]); (try simp only [List.length_cons]); (try simp only [List.length_nil]); omega), wrFitE (by (try simp only [List.length_append]); (try simp only [List.length_cons]); (try simp only [List.length_nil]); omega)]
    intro E w' hk
    obtain ⟨rfl, v', hL, hkeep⟩ := HL.out.step hk
    replace HL := Lib.hid hL
    replace HB : Hid (BoxX w' g1 s) := (hkeep g1 (by simp)).trans HB.out
    replace HC : Hid (BoxX w' g2 t) := (hkeep g2 (by simp)).trans HC.out
    clear hL hkeep hk
    go_wp2_with fail
    refine (w32_any _ gw _ 40 _ 0 proto (by exact HL.out.wr) (by omega) (by omega)).mono ?_
    rw [wrFit (by (try simp only [List.length_append]); (try simp only [List.length_cons]); (try simp only [List.length_nil]); omega), wrFitE (by (try simp only [List.length_append]); (try simp only [List.length_cons]); (try simp only [List.length_nil]); omega)]
    intro E w' hk
    obtain ⟨rfl, v', hL, hkeep⟩ := HL.out.step hk
    replace HL := Lib.hid hL
    replace HB : Hid (BoxX w' g1 s) := (hkeep g1 (by simp)).trans HB.out
    replace HC : Hid (BoxX w' g2 t) := (hkeep g2 (by simp)).trans HC.out
    clear hL hkeep hk
    go_wp2_with fail
    refine (out_any _ gw _ 40 _ 0 (by exact HL.out.wr)).mono ?_
    rintro E w6 ⟨vo, rfl, hown, hnew, haw⟩
    rw [show ∀ l, wrOut l 0 = l from fun l => by unfold wrOut; rw [if_pos rfl], ← E6.out hv] at hown
    have HA : Hid (Away [] w w6) := HL.out.aw.on haw
    obtain ⟨ao, co, rfl, ho1, ho2, ho3, _⟩ := hown.row (by rw [HPL.out]; split <;> omega) HPB.out
    have HO := Lib.hid ho3
    clear haw hown hnew ho3
    go_wp2_with fail
    refine (part_any ao _ co ho1 _ (by exact HO.out)).mono ?_
    rintro E w7 ⟨rfl, k, rfl⟩
    go_wp2_with fail
    go_ret2
    exact ⟨rfl, HA.out.drewN k⟩
theorem pseudo_c (s t : Ax) (proto n : Int) (w : World) (hs : WfA s) (ht : WfA t) :
    Calls Tryd.prog 65 #[.agg (csA s.v s.l), .agg (csA t.v t.l), .int .i64 proto, .int .i64 n] w fun E w' => PsOut w (psP s t proto n) E w' := by
  unfold psP
  split
  · rename_i h
    simp only [psOk, Bool.and_eq_true, decide_eq_true_eq] at h
    exact pseudo_yes s t proto n w hs ht h.1.1 h.1.2.1 h.1.2.2 h.2
  · rename_i h
    cases hz : pairP s t
    · exact pseudo_no1 s t proto n w hs ht hz
    · by_cases h0 : proto < 0
      · exact pseudo_no2 s t proto n w hs ht hz h0
      · by_cases h1 : 255 < proto
        · exact pseudo_no3 s t proto n w hs ht hz (by omega) h1
        · cases hn : wordP n
          · exact pseudo_no4 s t proto n w hs ht hz (by omega) (by omega) hn
          · exact absurd (by simp [psOk, hz, hn]; omega) h
end Go.Proofs.YtbgpjhekohabiaaDoor
