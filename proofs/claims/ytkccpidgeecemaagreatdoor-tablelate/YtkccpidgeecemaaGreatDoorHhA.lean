/-
  endAt, mayReach, mayEnd, Put, Holes, End, Done, New.
-/
import Derived.Test.YtkccpidgeecemaaGreatDoorHRpA
import Derived.Test.YtkccpidgeecemaaGreatDoorHHol
import Derived.Laws.EntriesVeiled
import Derived.Deep.RegionWith
namespace Go.Proofs.YtkccpidgeecemaaGreatDoor.H
open Go.ChangeShapes Go.WideShapes Go.ChangeAt Go.RowKit
set_option linter.unusedVariables false
set_option linter.unusedSimpArgs false
structure Hl (w : World) (g : Nat) (v : Value) (m : List Sp) (e : Int) : Prop where
  blk : w.heap[g]? = some (.cells #[v, .int .i64 e] 114 (0, 0))
  lst : Lst w v m
  own : ∀ k, v.ownBlock = some k → k ≠ g
  right : rightP m = true
theorem Hl.away {S : List Nat} {w w' : World} {g : Nat} {v : Value} {m : List Sp} {e : Int} (h : Hl w g v m e) (hw : Away S w w') (hg : g ∉ S) (hv : ∀ k, v.ownBlock = some k → k ∉ S) : Hl w' g v m e :=
  ⟨hw.keep hg h.blk, h.lst.away hw hv, h.own, h.right⟩
theorem Hl.on {w w' : World} {g : Nat} {v : Value} {m : List Sp} {e : Int} (h : Hl w g v m e) (hw : Away [] w w') : Hl w' g v m e := h.away hw (by simp) (by simp)
theorem Hl.c0 {w : World} {g : Nat} {v : Value} {m : List Sp} {e : Int} (h : Hl w g v m e) : w.cell? ⟨g, 0, none⟩ = some v := by rw [cell_of_block h.blk]; rfl
theorem Hl.c1 {w : World} {g : Nat} {v : Value} {m : List Sp} {e : Int} (h : Hl w g v m e) : w.cell? ⟨g, 1, none⟩ = some (.int .i64 e) := by rw [cell_of_block h.blk]; rfl
theorem Hl.free {w : World} {g : Nat} {v : Value} {m : List Sp} {e : Int} (h : Hl w g v m e) (i : Nat) : w.frozen? ⟨g, i, none⟩ = false := free_of_block h.blk i
theorem is_ok {x : Sp} (h : Is x) : OkS x := by unfold Is at h; unfold OkS I64; omega
theorem Hl.slice {w : World} {g : Nat} {v : Value} {m : List Sp} {e : Int} (h : Hl w g v m e) :
    ∃ a cap, v = .slice a m.length cap ∧ m.length ≤ cap ∧ (a = none → cap = 0) ∧ Row w a m ∧ (∀ p, a = some p → v.ownBlock = some p.block ∧ p.off = 0 ∧ p.spot = none) :=
  h.lst.row (by have := right_short h.right; omega) (fun x hx => is_ok (right_is h.right x hx))
theorem right_up {m : List Sp} (h : rightP m = true) {t s : Nat} {x y : Sp} (hts : t < s) (hx : m[t]? = some x) (hy : m[s]? = some y) : x.1 < x.2 ∧ x.2 < y.1 ∧ y.1 < y.2 := by
  have e1 : m.drop t = x :: m.drop (t + 1) := drop_at hx
  have h1 := right_drop h t
  unfold rightP at h1
  rw [e1] at h1
  obtain ⟨a1, a2, a3⟩ := rf_cons.1 h1
  have hy' : y ∈ m.drop (t + 1) := List.mem_of_getElem? (i := s - (t + 1)) (by rw [List.getElem?_drop, show t + 1 + (s - (t + 1)) = s from by omega]; exact hy)
  have := rf_is a3 y hy'
  unfold Is at a1 this
  omega
def PartF (m : List Sp) (i : Nat) (P : Sp → Bool) : Prop := ∀ (t : Nat) (x : Sp), t < i → m[t]? = some x → P x = false
def PartT (m : List Sp) (i : Nat) (P : Sp → Bool) : Prop := ∀ (t : Nat) (x : Sp), i ≤ t → m[t]? = some x → P x = true
structure Parted (n : Nat) (m : List Sp) (i : Nat) (P : Sp → Bool) : Prop where
  le : i ≤ n
  f : PartF m i P
  t : PartT m i P
set_option maxHeartbeats 2000000 in
theorem pred39_c {w : World} {g p q : Nat} {e s1 s2 : Int} {a : Option Addr} {cap n : Nat} {m : List Sp} (k : Nat) (x : Sp) (hv : w.cell? ⟨g, 0, none⟩ = some (.slice a n cap)) (hn : m.length = n) (hr : Row w a m) (hx : m[k]? = some x)
    (hp : w.cell? ⟨p, 0, none⟩ = some (.pointer (some ⟨g, 0, none⟩))) (hq1 : w.cell? ⟨q, 0, none⟩ = some (.int .i64 s1)) (hq2 : w.cell? ⟨q, 1, none⟩ = some (.int .i64 s2)) :
    Calls Tryz.prog 103 #[.int .i64 k, .pointer (some ⟨p, 0, none⟩), .pointer (some ⟨q, 0, none⟩)] w fun E w' => E = .returned (.bool (decide (s1 < x.2))) ∧ ∃ n, w' = w.drewN n := by
  subst hn
  have hlen := hr.1
  have hk := get_lt hx
  obtain ⟨b, off, rfl, d1, d2, -⟩ := hr.at hx
  clear hr hx
  obtain ⟨x1, x2⟩ := x
  simp only at d1 d2 ⊢
  have t2 : 0 ≤ (k : Int) := by omega
  have t3 : (k : Int) < (m.length : Int) := by omega
  have t4 : ((k : Int)).toNat = k := by omega
  go_enter Tryz.func103, Tryz.ntmps103
  go_wp2_with fail
  go_quiet (fail)
  go_wp2_with fail
  go_ret
  exact ⟨by first | rfl | simp, _, rfl⟩
set_option maxHeartbeats 2000000 in
theorem pred40_c {w : World} {g p q : Nat} {e s1 s2 : Int} {a : Option Addr} {cap n : Nat} {m : List Sp} (k : Nat) (x : Sp) (hv : w.cell? ⟨g, 0, none⟩ = some (.slice a n cap)) (hn : m.length = n) (hr : Row w a m) (hx : m[k]? = some x)
    (hp : w.cell? ⟨p, 0, none⟩ = some (.pointer (some ⟨g, 0, none⟩))) (hq1 : w.cell? ⟨q, 0, none⟩ = some (.int .i64 s1)) (hq2 : w.cell? ⟨q, 1, none⟩ = some (.int .i64 s2)) :
    Calls Tryz.prog 104 #[.int .i64 k, .pointer (some ⟨p, 0, none⟩), .pointer (some ⟨q, 0, none⟩)] w fun E w' => E = .returned (.bool (decide (s2 ≤ x.1))) ∧ ∃ n, w' = w.drewN n := by
  subst hn
  have hlen := hr.1
  have hk := get_lt hx
  obtain ⟨b, off, rfl, d1, d2, -⟩ := hr.at hx
  clear hr hx
  obtain ⟨x1, x2⟩ := x
  simp only at d1 d2 ⊢
  have t2 : 0 ≤ (k : Int) := by omega
  have t3 : (k : Int) < (m.length : Int) := by omega
  have t4 : ((k : Int)).toNat = k := by omega
  go_enter Tryz.func104, Tryz.ntmps104
  go_wp2_with fail
  go_quiet (fail)
  go_wp2_with fail
  go_ret
  exact ⟨by first | rfl | simp, _, rfl⟩
set_option maxHeartbeats 2000000 in
theorem search39_c {w : World} {g p q : Nat} {s1 s2 : Int} {a : Option Addr} {cap n : Nat} {m : List Sp} (hv : w.cell? ⟨g, 0, none⟩ = some (.slice a n cap)) (hn : m.length = n) (hr : Row w a m)
    (hp : w.cell? ⟨p, 0, none⟩ = some (.pointer (some ⟨g, 0, none⟩))) (hq1 : w.cell? ⟨q, 0, none⟩ = some (.int .i64 s1)) (hq2 : w.cell? ⟨q, 1, none⟩ = some (.int .i64 s2)) (hup : rightP m = true) :
    Calls Tryz.prog 102 #[.int .i64 n, .func (.func 103) #[] #[.pointer (some ⟨p, 0, none⟩), .pointer (some ⟨q, 0, none⟩)]] w fun E w' => ∃ (i z : Nat), E = .returned (.int .i64 i) ∧ Parted n m i (fun x => decide (s1 < x.2)) ∧ w' = w.drewN z := by
  have hlen := hr.1
  rw [hn] at hlen
  have HP : Hid (∀ (z k : Nat) (x : Sp), m[k]? = some x → Calls Tryz.prog 103 #[.int .i64 k, .pointer (some ⟨p, 0, none⟩), .pointer (some ⟨q, 0, none⟩)] (w.drewN z) fun E w' => E = .returned (.bool (decide (s1 < x.2))) ∧ ∃ n, w' = (w.drewN z).drewN n) :=
    fun z k x hx => pred39_c (w := w.drewN z) (e := 0) k x hv hn (hr.drewN z) hx hp hq1 hq2
  have HU : Hid (∀ (t s : Nat) (x y : Sp), t ≤ s → m[t]? = some x → m[s]? = some y → s1 < x.2 → s1 < y.2) := fun t s x y hts hx hy h => by
    rcases Nat.lt_or_ge t s with h1 | h1
    · have := right_up hup h1 hx hy
      omega
    · obtain rfl : t = s := by omega
      rw [hx] at hy; simp at hy; subst hy; exact h
  have HN : Hid (m.length = n) := hn
  clear hr hp hq1 hq2 hup hv hn
  go_enter Tryz.func102, Tryz.ntmps102
  go_wp2_with fail
  go_loopw [5, 6] (fun i j wr => ∃ k r z : Nat, i = .int .i64 k ∧ j = .int .i64 r ∧ k ≤ r ∧ r ≤ n ∧ PartF m k (fun x => decide (s1 < x.2)) ∧ PartT m r (fun x => decide (s1 < x.2)) ∧ wr = w.drewN z) (fun i j _ => (intOf j).toNat - (intOf i).toNat)
  case atStart => exact ⟨0, n, 0, rfl, rfl, by omega, by omega, fun t x ht hx => by omega, fun t x ht hx => by have := get_lt hx; have := HN.out; omega, rfl⟩
  case round =>
    obtain ⟨k, r, z, rfl, rfl, hk, hm, h1, h2, rfl⟩ := hrel
    have H1 := hidI h1
    have H2 := hidI h2
    clear h1 h2
    by_cases hlt : k < r
    · obtain ⟨t, ht, ht1, ht2⟩ : ∃ t : Nat, ((k : Int) + r) / 2 = t ∧ k ≤ t ∧ t < r := ⟨(k + r) / 2, by omega, by omega, by omega⟩
      obtain ⟨x, hx, -⟩ := get_of (show t < m.length by have := HN.out; omega)
      have HC := HP.out z t x hx
      have HX : Hid (m[t]? = some x) := hx
      have HT : Hid (((k : Int) + r) / 2 = t) := ht
      clear hx ht
      by_cases hb : s1 < x.2
      · rw [decide_eq_true hb] at HC
        have HB : Hid (s1 < x.2) := hb
        clear hb
        go_wp2_with fail
        rw [HT.out]
        refine HC.mono ?_
        rintro E w2 ⟨rfl, z2, rfl⟩
        go_wp2_with fail
        go_roundw
        case rel => exact ⟨k, t, z + z2, rfl, rfl, by omega, by omega, H1.out, fun s y hs hy => decide_eq_true (HU.out t s x y hs HX.out hy HB.out), by first | rfl | (simp [World.drewN]; try omega)⟩
        case measure => simp [intOf]; omega
      · rw [decide_eq_false hb] at HC
        have HB := hidI hb
        clear hb
        go_wp2_with fail
        rw [HT.out]
        refine HC.mono ?_
        rintro E w2 ⟨rfl, z2, rfl⟩
        go_wp2_with fail
        go_roundw
        case rel => exact ⟨t + 1, r, z + z2, by go_num, rfl, by omega, by omega, fun s y hs hy => decide_eq_false (fun hc => by have h1 := HU.out s t y x (by omega) hy HX.out hc; have h2 := HB.out; omega), H2.out, by first | rfl | (simp [World.drewN]; try omega)⟩
        case measure => simp [intOf]; omega
    · go_wp2_with fail
      go_ret
      obtain rfl : k = r := by omega
      exact ⟨k, z, rfl, ⟨hm, H1.out, H2.out⟩, rfl⟩
set_option maxHeartbeats 2000000 in
theorem search40_c {w : World} {g p q : Nat} {s1 s2 : Int} {a : Option Addr} {cap n : Nat} {m : List Sp} (hv : w.cell? ⟨g, 0, none⟩ = some (.slice a n cap)) (hn : m.length = n) (hr : Row w a m)
    (hp : w.cell? ⟨p, 0, none⟩ = some (.pointer (some ⟨g, 0, none⟩))) (hq1 : w.cell? ⟨q, 0, none⟩ = some (.int .i64 s1)) (hq2 : w.cell? ⟨q, 1, none⟩ = some (.int .i64 s2)) (hup : rightP m = true) :
    Calls Tryz.prog 102 #[.int .i64 n, .func (.func 104) #[] #[.pointer (some ⟨p, 0, none⟩), .pointer (some ⟨q, 0, none⟩)]] w fun E w' => ∃ (i z : Nat), E = .returned (.int .i64 i) ∧ Parted n m i (fun x => decide (s2 ≤ x.1)) ∧ w' = w.drewN z := by
  have hlen := hr.1
  rw [hn] at hlen
  have HP : Hid (∀ (z k : Nat) (x : Sp), m[k]? = some x → Calls Tryz.prog 104 #[.int .i64 k, .pointer (some ⟨p, 0, none⟩), .pointer (some ⟨q, 0, none⟩)] (w.drewN z) fun E w' => E = .returned (.bool (decide (s2 ≤ x.1))) ∧ ∃ n, w' = (w.drewN z).drewN n) :=
    fun z k x hx => pred40_c (w := w.drewN z) (e := 0) k x hv hn (hr.drewN z) hx hp hq1 hq2
  have HU : Hid (∀ (t s : Nat) (x y : Sp), t ≤ s → m[t]? = some x → m[s]? = some y → s2 ≤ x.1 → s2 ≤ y.1) := fun t s x y hts hx hy h => by
    rcases Nat.lt_or_ge t s with h1 | h1
    · have := right_up hup h1 hx hy
      omega
    · obtain rfl : t = s := by omega
      rw [hx] at hy; simp at hy; subst hy; exact h
  have HN : Hid (m.length = n) := hn
  clear hr hp hq1 hq2 hup hv hn
  go_enter Tryz.func102, Tryz.ntmps102
  go_wp2_with fail
  go_loopw [5, 6] (fun i j wr => ∃ k r z : Nat, i = .int .i64 k ∧ j = .int .i64 r ∧ k ≤ r ∧ r ≤ n ∧ PartF m k (fun x => decide (s2 ≤ x.1)) ∧ PartT m r (fun x => decide (s2 ≤ x.1)) ∧ wr = w.drewN z) (fun i j _ => (intOf j).toNat - (intOf i).toNat)
  case atStart => exact ⟨0, n, 0, rfl, rfl, by omega, by omega, fun t x ht hx => by omega, fun t x ht hx => by have := get_lt hx; have := HN.out; omega, rfl⟩
  case round =>
    obtain ⟨k, r, z, rfl, rfl, hk, hm, h1, h2, rfl⟩ := hrel
    have H1 := hidI h1
    have H2 := hidI h2
    clear h1 h2
    by_cases hlt : k < r
    · obtain ⟨t, ht, ht1, ht2⟩ : ∃ t : Nat, ((k : Int) + r) / 2 = t ∧ k ≤ t ∧ t < r := ⟨(k + r) / 2, by omega, by omega, by omega⟩
      obtain ⟨x, hx, -⟩ := get_of (show t < m.length by have := HN.out; omega)
      have HC := HP.out z t x hx
      have HX : Hid (m[t]? = some x) := hx
      have HT : Hid (((k : Int) + r) / 2 = t) := ht
      clear hx ht
      by_cases hb : s2 ≤ x.1
      · rw [decide_eq_true hb] at HC
        have HB : Hid (s2 ≤ x.1) := hb
        clear hb
        go_wp2_with fail
        rw [HT.out]
        refine HC.mono ?_
        rintro E w2 ⟨rfl, z2, rfl⟩
        go_wp2_with fail
        go_roundw
        case rel => exact ⟨k, t, z + z2, rfl, rfl, by omega, by omega, H1.out, fun s y hs hy => decide_eq_true (HU.out t s x y hs HX.out hy HB.out), by first | rfl | (simp [World.drewN]; try omega)⟩
        case measure => simp [intOf]; omega
      · rw [decide_eq_false hb] at HC
        have HB := hidI hb
        clear hb
        go_wp2_with fail
        rw [HT.out]
        refine HC.mono ?_
        rintro E w2 ⟨rfl, z2, rfl⟩
        go_wp2_with fail
        go_roundw
        case rel => exact ⟨t + 1, r, z + z2, by go_num, rfl, by omega, by omega, fun s y hs hy => decide_eq_false (fun hc => by have h1 := HU.out s t y x (by omega) hy HX.out hc; have h2 := HB.out; omega), H2.out, by first | rfl | (simp [World.drewN]; try omega)⟩
        case measure => simp [intOf]; omega
    · go_wp2_with fail
      go_ret
      obtain rfl : k = r := by omega
      exact ⟨k, z, rfl, ⟨hm, H1.out, H2.out⟩, rfl⟩
set_option maxHeartbeats 2000000 in
theorem met_c {w : World} {g : Nat} {v : Value} {m : List Sp} {e : Int} (s : Sp) (h : Hl w g v m e) (hs : Is s) :
    Calls Tryz.prog 95 #[.pointer (some ⟨g, 0, none⟩), valS s] w fun E w' => ∃ i j : Nat, E = .returned (.tuple #[.int .i64 i, .int .i64 j]) ∧ Met m s i j ∧ Away [] w w' := by
  obtain ⟨a, cap, hv, hcap, hnone, hrow, -⟩ := h.slice
  have hlen := hrow.1
  have hm := h.right
  have k0 := h.c0
  rw [hv] at k0
  have HR := hidI hrow
  have HM := hidI hm
  have HS := hidI hs
  have hg := lt_of_block h.blk
  obtain ⟨s1, s2⟩ := s
  simp only [valS]
  have hg1 : ¬ (g = w.heap.size) := by omega
  have hg2 : ¬ (g = w.heap.size + 1) := by omega
  have hmf : ∀ (fn : Fn) (first cap : Array Value) (w : World), (Instr.makeFunc fn first cap).run Tryz.prog w = .ok (.func fn first cap) w := fun _ _ _ _ => rfl
  obtain ⟨n, hn⟩ : ∃ n, n = m.length := ⟨_, rfl⟩
  rw [← hn] at k0 hcap hlen
  have HN := hidI hn.symm
  clear h hrow hv hn hm hs
  go_enter Tryz.func95, Tryz.ntmps95
  go_wp2_with fail
  have haw := ((Away.refl [] w).alloc (.cells #[.pointer (some ⟨g, 0, none⟩)] 98)).alloc (.cells #[.int .i64 s1, .int .i64 s2] 112)
  generalize hW : (w.alloc (.cells #[.pointer (some ⟨g, 0, none⟩)] 98)).alloc (.cells #[.int .i64 s1, .int .i64 s2] 112) = W at *
  have b0 : W.cell? ⟨w.heap.size, 0, none⟩ = some (.pointer (some ⟨g, 0, none⟩)) := by rw [← hW]; simp
  have b1 : W.cell? ⟨w.heap.size + 1, 0, none⟩ = some (.int .i64 s1) := by rw [← hW]; simp
  have b2 : W.cell? ⟨w.heap.size + 1, 1, none⟩ = some (.int .i64 s2) := by rw [← hW]; simp
  have kW : W.cell? ⟨g, 0, none⟩ = some (.slice a n cap) := haw.cell (by simp) k0
  have HRW := hidI (HR.out.on haw)
  have HAW := hidI haw
  clear hW k0 haw
  refine (search39_c (g := g) (p := w.heap.size) (q := w.heap.size + 1) (s1 := s1) (s2 := s2) (a := a) (cap := cap) (n := n) (m := m) kW HN.out HRW.out b0 b1 b2 HM.out).mono ?_
  rintro E w2 ⟨i, z, rfl, hi, rfl⟩
  have H1 := hidI hi
  clear hi
  go_wp2_with fail
  refine (search40_c (w := W.drewN z) (g := g) (p := w.heap.size) (q := w.heap.size + 1) (s1 := s1) (s2 := s2) (a := a) (cap := cap) (n := n) (m := m) kW HN.out (HRW.out.drewN z) b0 b1 b2 HM.out).mono ?_
  rintro E w3 ⟨j, z2, rfl, hj, rfl⟩
  have H3 := hidI hj
  clear hj
  go_wp2_with fail
  go_ret2
  refine ⟨i, j, rfl, met_of HS.out (right_is HM.out) (by rw [HN.out]; exact H1.out.le) (by rw [HN.out]; exact H3.out.le) (fun t x ht hx => ?_) (fun t x ht hx => ?_) (fun t x ht hx => ?_) (fun t x ht hx => ?_), HAW.out.drewN _⟩
  · have := of_decide_eq_false (H1.out.f t x ht hx); show x.2 ≤ s1; omega
  · exact of_decide_eq_true (H1.out.t t x ht hx)
  · have := of_decide_eq_false (H3.out.f t x ht hx); show x.1 < s2; omega
  · exact of_decide_eq_true (H3.out.t t x ht hx)
set_option maxHeartbeats 4000000 in
theorem clipped_c (a : Option Addr) (l : List Sp) (s : Sp) (n cap : Nat) (w : World) (hn : l.length = n) (hr : Row w a l) :
    Calls Tryz.prog 97 #[.slice a n cap, valS s] w fun E w' => ∃ v, E = .returned v ∧ Mk w w' v (l.map (clipS s)) := by
  subst hn
  have hlen := hr.1
  have HR : Hid (Row w a l) := hr
  clear hr
  obtain ⟨s1, s2⟩ := s
  simp only [valS]
  have HB : Hid (Away [] w (w.alloc (.cells #[.int .i64 s1, .int .i64 s2] 112))) := (Away.refl _ _).alloc _
  obtain ⟨w1, hw1⟩ : ∃ w1, w1 = w.alloc (.cells #[.int .i64 s1, .int .i64 s2] 112) := ⟨_, rfl⟩
  have K1 : w1.cell? ⟨w.heap.size, 0, none⟩ = some (.int .i64 s1) := by rw [hw1]; simp
  have K2 : w1.cell? ⟨w.heap.size, 1, none⟩ = some (.int .i64 s2) := by rw [hw1]; simp
  go_enter Tryz.func97, Tryz.ntmps97
  go_wp2_with fail
  rw [← hw1] at HB ⊢
  have HBS : Hid (w.heap.size < w1.heap.size) := block_lt_of_cell K1
  clear hw1
  go_loopw [5, 10] (fun v i wr => ∃ k : Nat, k ≤ l.length ∧ i = .int .i64 k ∧ Mk w1 wr v ((l.take k).map (clipS (s1, s2)))) (fun _ i _ => l.length - (intOf i).toNat)
  case atStart => exact ⟨0, by omega, rfl, Mk.nil _⟩
  case round =>
    obtain ⟨k, hk, rfl, hm⟩ := hrel
    have HM : Hid (Mk w1 wr u5 ((l.take k).map (clipS (s1, s2)))) := hm
    have q1 := hm.2.2.cell (by simp) K1
    have q2 := hm.2.2.cell (by simp) K2
    by_cases hlt : k < l.length
    · obtain ⟨x, hx, _⟩ := get_of hlt
      obtain ⟨b, off, rfl, c1, c2, -⟩ := ((HR.out.on HB.out).on hm.2.2).at hx
      have HT : Hid ((l.take (k + 1)).map (clipS (s1, s2)) = (l.take k).map (clipS (s1, s2)) ++ [(max x.1 s1, min x.2 s2)]) := by show _ = _; rw [take_snoc hx]; simp [clipS]
      have HLN : Hid (((l.take k).map (clipS (s1, s2))).length < 8796093022208) := by show _ < _; simp; omega
      clear hx hm
      obtain ⟨x1, x2⟩ := x
      simp only at c1 c2 HT
      generalize (l.take k).map (clipS (s1, s2)) = r at *
      have q3 : (wr.alloc (.cells #[.int .i64 x1, .int .i64 x2] 112)).cell? ⟨w.heap.size, 0, none⟩ = some (.int .i64 s1) := ((Away.refl [] wr).alloc _).cell (by simp) q1
      have q4 : (wr.alloc (.cells #[.int .i64 x1, .int .i64 x2] 112)).cell? ⟨w.heap.size, 1, none⟩ = some (.int .i64 s2) := ((Away.refl [] wr).alloc _).cell (by simp) q2
      clear q1 q2
      rcases (show (min x2 s2 = x2 ∧ x2 ≤ s2) ∨ (min x2 s2 = s2 ∧ s2 < x2) by omega) with ⟨e1, o1⟩ | ⟨e1, o1⟩
      · rcases (show (max x1 s1 = x1 ∧ s1 ≤ x1) ∨ (max x1 s1 = s1 ∧ x1 < s1) by omega) with ⟨e2, o2⟩ | ⟨e2, o2⟩
        · go_wp2_with (at_builtin; refine wpList_app2 rfl _ _ rfl _ r rfl (by exact HM.out.1.on (((Away.refl [] _).alloc _).alloc _)) ⟨_, 0, none⟩ 1 rfl (x1, x2) (by simp) (by rw [add_plain]; simp) (by have := HLN.out; omega) ?_)
          intro v' w2 hown2 hgr hmov
          have haw2 : Mk w1 w2 v' (r ++ [(x1, x2)]) := ⟨hown2, HM.out.2.1.moved hmov (by have := HM.out.2.2.size; simp; omega), ((HM.out.2.2.alloc _).alloc _).step hgr HM.out.2.1⟩
          have HM2 := hidI haw2
          clear hown2 hgr hmov haw2
          go_wp2_with fail
          go_roundw
          case rel => exact ⟨k + 1, by omega, by go_num, by rw [HT.out, e1, e2]; exact HM2.out⟩
          case measure => simp [intOf]; omega
        · go_wp2_with (at_builtin; refine wpList_app2 rfl _ _ rfl _ r rfl (by exact HM.out.1.on (((Away.refl [] _).alloc _).alloc _)) ⟨_, 0, none⟩ 1 rfl (s1, x2) (by simp) (by rw [add_plain]; simp) (by have := HLN.out; omega) ?_)
          intro v' w2 hown2 hgr hmov
          have haw2 : Mk w1 w2 v' (r ++ [(s1, x2)]) := ⟨hown2, HM.out.2.1.moved hmov (by have := HM.out.2.2.size; simp; omega), ((HM.out.2.2.alloc _).alloc _).step hgr HM.out.2.1⟩
          have HM2 := hidI haw2
          clear hown2 hgr hmov haw2
          go_wp2_with fail
          go_roundw
          case rel => exact ⟨k + 1, by omega, by go_num, by rw [HT.out, e1, e2]; exact HM2.out⟩
          case measure => simp [intOf]; omega
      · rcases (show (max x1 s1 = x1 ∧ s1 ≤ x1) ∨ (max x1 s1 = s1 ∧ x1 < s1) by omega) with ⟨e2, o2⟩ | ⟨e2, o2⟩
        · go_wp2_with (at_builtin; refine wpList_app2 rfl _ _ rfl _ r rfl (by exact HM.out.1.on (((Away.refl [] _).alloc _).alloc _)) ⟨_, 0, none⟩ 1 rfl (x1, s2) (by simp) (by rw [add_plain]; simp) (by have := HLN.out; omega) ?_)
          intro v' w2 hown2 hgr hmov
          have haw2 : Mk w1 w2 v' (r ++ [(x1, s2)]) := ⟨hown2, HM.out.2.1.moved hmov (by have := HM.out.2.2.size; simp; omega), ((HM.out.2.2.alloc _).alloc _).step hgr HM.out.2.1⟩
          have HM2 := hidI haw2
          clear hown2 hgr hmov haw2
          go_wp2_with fail
          go_roundw
          case rel => exact ⟨k + 1, by omega, by go_num, by rw [HT.out, e1, e2]; exact HM2.out⟩
          case measure => simp [intOf]; omega
        · go_wp2_with (at_builtin; refine wpList_app2 rfl _ _ rfl _ r rfl (by exact HM.out.1.on (((Away.refl [] _).alloc _).alloc _)) ⟨_, 0, none⟩ 1 rfl (s1, s2) (by simp) (by rw [add_plain]; simp) (by have := HLN.out; omega) ?_)
          intro v' w2 hown2 hgr hmov
          have haw2 : Mk w1 w2 v' (r ++ [(s1, s2)]) := ⟨hown2, HM.out.2.1.moved hmov (by have := HM.out.2.2.size; simp; omega), ((HM.out.2.2.alloc _).alloc _).step hgr HM.out.2.1⟩
          have HM2 := hidI haw2
          clear hown2 hgr hmov haw2
          go_wp2_with fail
          go_roundw
          case rel => exact ⟨k + 1, by omega, by go_num, by rw [HT.out, e1, e2]; exact HM2.out⟩
          case measure => simp [intOf]; omega
    · go_wp2_with fail
      go_ret
      have := HM.out.base HB.out
      rw [List.take_of_length_le (by omega)] at this
      exact ⟨_, rfl, this⟩
end Go.Proofs.YtkccpidgeecemaaGreatDoor.H
namespace Go.Proofs.YtkccpidgeecemaaGreatDoor.H
open Go.ChangeShapes Go.WideShapes Go.ChangeAt Go.RowKit
set_option linter.unusedVariables false
set_option linter.unusedSimpArgs false
theorem replace_c (a : Option Addr) (n cap i j k uc : Nat) (l x : List Sp) (ua : Option Addr) (w : World) (hl : Lst w (.slice a n cap) l) (hu : Lst w (.slice ua k uc) x) (hne : ∀ p p', ua = some p → a = some p' → p.block ≠ p'.block) (hi : i ≤ j) (hj : j ≤ n) (hsm : n + k ≤ 1000000)
    (hx : i = j → x = []) :
    Calls Tryz.prog 99 #[.slice a n cap, .int .i64 i, .int .i64 j, .slice ua k uc] w fun E w' => RepOut w (.slice a n cap) (newC l x i j) E w' := by
  have hk := hu.src.2.2.1
  have hnc : n ≤ cap ∧ l.length = n ∧ (0 < n → ∃ g, a = some ⟨g, 0, none⟩) := by
    rcases hl.2 with ⟨h2, h3⟩ | ⟨g', cap', cur, he, hg, hh, hn, hc, hs, ht'⟩
    · simp only [Value.slice.injEq] at h2
      obtain ⟨rfl, rfl, rfl⟩ := h2
      exact ⟨Nat.le_refl _, by simpa using h3, by simp⟩
    · simp only [Value.slice.injEq] at he
      obtain ⟨rfl, rfl, rfl⟩ := he
      exact ⟨hn, rfl, fun _ => ⟨g', rfl⟩⟩
  obtain ⟨hnc, hln, hg⟩ := hnc
  rcases Nat.lt_or_ge i j with h1 | h1
  · obtain ⟨g, rfl⟩ := hg (by omega)
    have hne' : ∀ p, ua = some p → p.block ≠ g := fun p hp => hne p _ hp rfl
    rcases Nat.lt_or_ge j n with h2 | h2
    · rcases Nat.lt_or_ge cap (i + k + (n - j)) with h3 | h3
      · exact rep_grow g n cap i j k (n - j) uc l x ua w hl hu hne' h1 h2 rfl hsm h3
      · rcases Nat.lt_or_ge j (i + k) with h4 | h4
        · exact rep_wide g n cap i j k (n - j) uc l x ua w hl hu hne' h1 h2 rfl hsm h3 h4
        · exact rep_fit g n cap i j k (n - j) uc l x ua w hl hu hne' h1 h2 rfl hsm h3 h4
    · obtain rfl : j = n := by omega
      exact rep_end g j cap i k uc l x ua w hl hu hne' h1 hsm
  · obtain rfl : i = j := by omega
    obtain rfl := hx rfl
    obtain rfl : k = 0 := by simpa using hk.symm
    exact rep_same a n cap i l ua uc w hl hnc hj hln
structure Took (w w' : World) (g : Nat) (v r v' : Value) (f c : List Sp) (e : Int) : Prop where
  fresh : Lst w' r f
  new : New w.heap.size r
  hl : Hl w' g v' c e
  moved : Moved w v v'
  apart : ∀ k, r.ownBlock = some k → v'.ownBlock ≠ some k
  aw : Away (g :: v.ownBlock.toList) w w'
def TakeOut (w : World) (g : Nat) (v : Value) (f c : List Sp) (e : Int) (E : Ending) (w' : World) : Prop := ∃ r v', E = .returned r ∧ Took w w' g v r v' f c e
set_option maxHeartbeats 4000000 in
theorem take_c {w : World} {g : Nat} {v : Value} {m : List Sp} {e : Int} (s : Sp) (h : Hl w g v m e) (hs : Is s) :
    Calls Tryz.prog 86 #[.pointer (some ⟨g, 0, none⟩), valS s] w fun E w' => TakeOut w g v (freshP m s) (cutP m s) e E w' := by
  obtain ⟨a, cap, hv, hcap, hnone, hrow, hab⟩ := h.slice
  have hm := h.right
  have hsh := right_short hm
  have hg := lt_of_block h.blk
  have hvl := h.lst.lt
  have H := hidI h
  have HS := hidI hs
  have HM := hidI hm
  obtain ⟨s1, s2⟩ := s
  simp only [valS]
  obtain ⟨n, hn⟩ : ∃ n, n = m.length := ⟨_, rfl⟩
  rw [← hn] at hv hcap hsh
  have HN := hidI hn
  subst hv
  have HNone := hidI hnone
  have HAB := hidI hab
  have HVL := hidI hvl
  clear h hrow hn hm hs hnone hab hvl
  go_enter Tryz.func86, Tryz.ntmps86
  go_wp2_with fail
  obtain ⟨w1, hw1⟩ : ∃ w1, w1 = w.alloc (.cells #[.int .i64 s1, .int .i64 s2] 112) := ⟨_, rfl⟩
  have HA1 : Hid (Away [] w w1) := by show Away _ _ _; rw [hw1]; exact (Away.refl _ _).alloc _
  have K1 : w1.cell? ⟨w.heap.size, 0, none⟩ = some (.int .i64 s1) := by rw [hw1]; simp
  have K2 : w1.cell? ⟨w.heap.size, 1, none⟩ = some (.int .i64 s2) := by rw [hw1]; simp
  rw [← hw1]
  have HSZ : Hid (w1.heap.size = w.heap.size + 1) := by show _ = _; rw [hw1]; simp
  clear hw1
  refine (met_c (s1, s2) (H.out.on HA1.out) HS.out).mono ?_
  rintro E w2 ⟨i, j, rfl, hmet, haw2⟩
  have hij := hmet.le
  have hjn : j ≤ n := by rw [HN.out]; exact hmet.len
  have HMET := hidI hmet
  have HA2 := hidI (HA1.out.trans haw2)
  have k1 := haw2.cell (by simp) K1
  have k2 := haw2.cell (by simp) K2
  have H2 := hidI (H.out.on HA2.out)
  have c2 := (H.out.on HA2.out).c0
  clear hmet haw2 K1 K2
  obtain ⟨A1, hA1⟩ : ∃ A1, A1 = if cap = i then a else a.map (·.add (i * 2)) := ⟨_, rfl⟩
  have hsl := slice_lh a A1 n cap i (j - i) (i : Int) (j : Int) hA1 rfl (by omega) (by omega)
  have HRow : Hid (Row w2 A1 ((m.drop i).take (j - i))) := by
    obtain ⟨a', cap', he, -, -, hr, -⟩ := H2.out.slice
    simp only [Value.slice.injEq] at he
    obtain ⟨rfl, -, rfl⟩ := he
    rw [hA1]
    exact (hr.tail i cap (by rw [← HN.out]; exact hcap) (by rw [← HN.out]; omega)).head (j - i)
  have HL : Hid (((m.drop i).take (j - i)).length = j - i) := by show _ = _; simp; rw [← HN.out]; omega
  have HXE : Hid (i = j → (m.drop i).take (j - i) = []) := fun e => by subst e; simp
  have HMR : Hid (rightP ((m.drop i).take (j - i)) = true) := HMET.out.mid HM.out
  have HF : Hid (freshP m (s1, s2) = ((m.drop i).take (j - i)).map (clipS (s1, s2))) := HMET.out.fresh HM.out HS.out
  have HC : Hid (cutP m (s1, s2) = newC m (cutP ((m.drop i).take (j - i)) (s1, s2)) i j) := HMET.out.cut HM.out HS.out
  generalize (m.drop i).take (j - i) = M at *
  clear hA1
  go_wp2_with fail
  refine (clipped_c A1 M (s1, s2) (j - i) _ _ HL.out HRow.out).mono ?_
  rintro E w3 ⟨r, rfl, hmk3⟩
  have HA3 := hidI (HA2.out.trans hmk3.2.2)
  have HMK := hidI hmk3
  have q1 := hmk3.2.2.cell (by simp) k1
  have q2 := hmk3.2.2.cell (by simp) k2
  have HRow3 := hidI (HRow.out.on hmk3.2.2)
  have H3 := hidI (H.out.on HA3.out)
  have c3 := (H.out.on HA3.out).c0
  clear hmk3 k1 k2 c2
  go_wp2_with fail
  refine (cut_c A1 M (s1, s2) (j - i) _ _ HL.out HRow3.out).mono ?_
  intro E w4 hans
  change Ans w3 (rightP M && isB (s1, s2)) (cutP M (s1, s2)) E w4 at hans
  rw [HMR.out, isB_iff.2 HS.out] at hans
  unfold Ans at hans
  rw [if_pos (by rfl)] at hans
  obtain ⟨u, rfl, hmk4⟩ := hans
  have HA4 := hidI (HA3.out.trans hmk4.2.2)
  have hcl := cut_len M (s1, s2)
  rw [HL.out] at hcl
  have hcr := (cut_of HMR.out HS.out).right
  obtain ⟨ua, uc, hu, -, -, -, hub⟩ := hmk4.1.row (by omega) (fun x hx => is_ok (right_is hcr x hx))
  obtain ⟨k, hk⟩ : ∃ k, k = (cutP M (s1, s2)).length := ⟨_, rfl⟩
  rw [← hk] at hu hcl
  subst hu
  have H4 := hidI (H.out.on HA4.out)
  have c4 := (H.out.on HA4.out).c0
  have f4 := (H.out.on HA4.out).free 0
  have KR : Hid (Calls Tryz.prog 99 #[.slice a n cap, .int .i64 i, .int .i64 j, .slice ua k uc] w4 fun E w' => RepOut w4 (.slice a n cap) (cutP m (s1, s2)) E w') := by
    show Calls _ _ _ _ _
    rw [HC.out]
    refine replace_c a n cap i j k uc m _ ua w4 H4.out.lst hmk4.1 (fun p p' hp hp' => ?_) hij hjn (by omega) (fun e => by rw [HXE.out e]; rfl)
    have b1 := (hub p hp).1
    have b2 := (HAB.out p' hp').1
    have l1 := hmk4.2.1 _ b1
    have l2 := HVL.out _ b2
    have l3 := HA3.out.size
    omega
  have HR4 := hidI (HMK.out.on hmk4.2.2)
  clear hmk4 hk hub hcr hcl c3 q1 q2 HRow HRow3 HC HXE HL HMR
  go_wp2_with fail
  refine KR.out.mono ?_
  rintro E w5 ⟨v', rfl, hgr⟩
  have hgb : g ∉ (Value.slice a n cap).ownBlock.toList := fun hx => H.out.own g (by simpa using hx) rfl
  have b5 := hgr.2.2.keep hgb H4.out.blk
  have c5 := cell_of_block b5 0
  have f5 := free_of_block b5 0
  simp only [List.getElem?_toArray, List.getElem?_cons_zero] at c5
  have HB5 := hidI b5
  have hcr := (cut_of HM.out HS.out).right
  obtain ⟨a5, cap5, he5, -⟩ := hgr.1.row (by have := right_short hcr; omega) (fun x hx => is_ok (right_is hcr x hx))
  generalize (cutP m (s1, s2)).length = n5 at he5
  subst he5
  have HG5 := hidI hgr
  clear hgr b5 c4 f4 hcr
  go_wp2_with fail
  go_ret
  obtain ⟨v', hv'⟩ : ∃ v', v' = Value.slice a5 n5 cap5 := ⟨_, rfl⟩
  rw [← hv'] at HG5 ⊢
  clear hv'
  have hszw : w.heap.size ≤ w4.heap.size := HA4.out.size
  have hrl : ∀ t, r.ownBlock = some t → w.heap.size ≤ t ∧ t < w4.heap.size := fun t ht => ⟨Nat.le_trans HA2.out.size (HR4.out.2.1 t ht), HR4.out.1.lt t ht⟩
  have hrn : ∀ t, r.ownBlock = some t → t ∉ (Value.slice a n cap).ownBlock.toList := fun t ht hc => by
    have := HVL.out t (by simpa using hc)
    have := (hrl t ht).1
    omega
  have hap : ∀ t, r.ownBlock = some t → v'.ownBlock ≠ some t := fun t ht hc => by
    rcases HG5.out.2.1 t hc with h1 | h1
    · exact hrn t ht (by simpa using h1)
    · have := (hrl t ht).2; omega
  have hvg : ∀ t, v'.ownBlock = some t → t ≠ g := fun t ht hc => by
    subst hc
    rcases HG5.out.2.1 t ht with h1 | h1
    · exact hgb (by simpa using h1)
    · omega
  have hset : Away [g] w5 (w5.setCell ⟨g, 0, none⟩ v') := (Away.refl _ _).setCell (.inl (by simp)) _
  refine ⟨r, v', rfl, ?_, fun t ht => (hrl t ht).1, ?_, fun t ht => ?_, hap, ?_⟩
  · rw [HF.out]
    exact (HR4.out.1.away HG5.out.2.2 hrn).away hset (fun t ht => by simp; have := (hrl t ht).1; omega)
  · refine ⟨?_, HG5.out.1.away hset (fun t ht => by simpa using hvg t ht), hvg, (cut_of HM.out HS.out).right⟩
    have := block_set HB5.out 0 v'
    simpa using this
  · rcases HG5.out.2.1 t ht with h1 | h1
    · exact .inl h1
    · exact .inr (by omega)
  · exact ((HA4.out.mono (by simp)).next (HG5.out.2.2) (fun z hz => .inl (by simp at hz ⊢; exact .inr hz))).next hset (fun z hz => .inl (by simp at hz ⊢; exact .inl hz))
end Go.Proofs.YtkccpidgeecemaaGreatDoor.H
namespace Go.Proofs.YtkccpidgeecemaaGreatDoor.H
open Go.ChangeShapes Go.WideShapes Go.ChangeAt Go.RowKit
set_option linter.unusedVariables false
set_option linter.unusedSimpArgs false
theorem Hl.set {w : World} {g : Nat} {v : Value} {m : List Sp} {e : Int} (h : Hl w g v m e) (t : Int) : Hl (w.setCell ⟨g, 1, none⟩ (.int .i64 t)) g v m t := by
  refine ⟨by have := block_set h.blk 1 (.int .i64 t); simpa using this, h.lst.away (S := [g]) ((Away.refl _ _).setCell (.inl (by simp)) _) (fun k hk => by simpa using h.own k hk), h.own, h.right⟩
def EndOut (w : World) (g : Nat) (v : Value) (m : List Sp) (to : Int) (E : Ending) (w' : World) : Prop :=
  ∃ v', E = .returned (.tuple #[]) ∧ Hl w' g v' (shutP m to) to ∧ Moved w v v' ∧ Away (g :: v.ownBlock.toList) w w'
set_option maxHeartbeats 2000000 in
theorem endAt_c {w : World} {g : Nat} {v : Value} {m : List Sp} {e : Int} (to : Int) (h : Hl w g v m e) (h1 : 1 ≤ to) (h2 : to ≤ 65535) :
    Calls Tryz.prog 87 #[.pointer (some ⟨g, 0, none⟩), .int .i64 to] w fun E w' => EndOut w g v m to E w' := by
  have c1 := h.c1
  have f1 := h.free 1
  have H := hidI h
  have hset : Away [g] w (w.setCell ⟨g, 1, none⟩ (.int .i64 to)) := (Away.refl _ _).setCell (.inl (by simp)) _
  have HSET := hidI hset
  have H1 := hidI (h.set to)
  clear h hset
  by_cases hlt : to < 65535
  · have HSH : Hid (shutP m to = cutP m (to, 65535)) := by show _ = _; unfold shutP; rw [if_pos hlt]
    have KT : Hid (Calls Tryz.prog 86 #[.pointer (some ⟨g, 0, none⟩), .agg #[.int .i64 to, .int .i64 65535]] (w.setCell ⟨g, 1, none⟩ (.int .i64 to)) fun E w' => TakeOut (w.setCell ⟨g, 1, none⟩ (.int .i64 to)) g v (freshP m (to, 65535)) (cutP m (to, 65535)) to E w') :=
      take_c (to, 65535) H1.out ⟨by simp only; omega, by simp only; omega, by simp only; omega⟩
    go_enter Tryz.func87, Tryz.ntmps87
    go_wp2_with fail
    refine KT.out.mono ?_
    rintro E w2 ⟨r, v', rfl, ht⟩
    have HT := hidI ht
    clear ht
    go_wp2_with fail
    go_end0
    have ht := HT.out
    refine ⟨v', rfl, by rw [HSH.out]; exact ht.hl, fun k hk => ?_, (HSET.out.mono (by simp)).next ht.aw (fun z hz => .inl hz)⟩
    rcases ht.moved k hk with h | h
    · exact .inl h
    · exact .inr (by simpa using h)
  · have HSH : Hid (shutP m to = m) := by show _ = _; unfold shutP; rw [if_neg hlt]
    go_enter Tryz.func87, Tryz.ntmps87
    go_wp2_with fail
    go_end0
    exact ⟨v, rfl, by rw [HSH.out]; exact H1.out, Moved.refl _ _, HSET.out.mono (by simp)⟩
set_option maxHeartbeats 1000000 in
theorem reach_c {w : World} {g : Nat} {v : Value} {m : List Sp} {e : Int} (to : Int) (h : Hl w g v m e) :
    Calls Tryz.prog 84 #[.pointer (some ⟨g, 0, none⟩), .int .i64 to] w fun E w' => E = .returned (.bool (endOk m e to true)) ∧ w' = w := by
  have c1 := h.c1
  clear h
  have HZ : Hid (endOk m e to true = decide (e = -1 ∨ to ≤ e)) := by show _ = _; unfold endOk; rw [if_pos rfl]
  generalize endOk m e to true = z at *
  by_cases he : e = -1
  · subst he
    go_enter Tryz.func84, Tryz.ntmps84
    go_wp2_with fail
    go_ret
    exact ⟨by rw [HZ.out]; simp, rfl⟩
  · by_cases ht : to ≤ e
    · go_enter Tryz.func84, Tryz.ntmps84
      go_wp2_with fail
      go_ret
      exact ⟨by rw [HZ.out]; simp [he, ht], rfl⟩
    · have HE := hidI he
      have HT := hidI ht
      go_enter Tryz.func84, Tryz.ntmps84
      go_wp2_with fail
      go_ret
      exact ⟨by rw [HZ.out, decide_eq_false (show ¬ (e = -1 ∨ to ≤ e) by have h1 := HE.out; have h2 := HT.out; omega), show (e == -1) = false from beq_false_of_ne HE.out]; rfl, rfl⟩
set_option maxHeartbeats 4000000 in
theorem mayEnd_c {w : World} {g : Nat} {v : Value} {m : List Sp} {e : Int} (to : Int) (h : Hl w g v m e) (h1 : 1 ≤ to) (h2 : to ≤ 65535) :
    Calls Tryz.prog 85 #[.pointer (some ⟨g, 0, none⟩), .int .i64 to] w fun E w' => E = .returned (.bool (endOk m e to false)) ∧ Away [] w w' := by
  have c1 := h.c1
  have HZ : Hid (endOk m e to false = if e = -1 then decide (to = 65535) || hasP m (to, 65535) else decide (to = e)) := by show _ = _; unfold endOk; rw [if_neg (by simp)]
  by_cases he : e = -1
  · by_cases hto : to = 65535
    · have HQ : Hid (endOk m e to false = true) := by show _ = _; rw [HZ.out, if_pos he, hto]; simp
      generalize endOk m e to false = z at *
      subst he
      subst hto
      clear h HZ
      go_enter Tryz.func85, Tryz.ntmps85
      go_wp2_with fail
      go_ret
      exact ⟨by rw [HQ.out]; rfl, Away.refl _ _⟩
    · have HQ : Hid (endOk m e to false = hasP m (to, 65535)) := by show _ = _; rw [HZ.out, if_pos he, decide_eq_false hto, Bool.false_or]
      generalize endOk m e to false = z at *
      clear HZ
      subst he
      have hs : Is (to, 65535) := ⟨by simp only; omega, by simp only; omega, by simp only; omega⟩
      obtain ⟨a, cap, hv, hcap, hnone, hrow, hab⟩ := h.slice
      have hm := h.right
      have H := hidI h
      have HS := hidI hs
      have HM := hidI hm
      obtain ⟨n, hn⟩ : ∃ n, n = m.length := ⟨_, rfl⟩
      rw [← hn] at hv hcap
      have HN := hidI hn
      subst hv
      have hsh := right_short hm
      rw [← hn] at hsh
      clear h hrow hn hm hs hab hnone
      go_enter Tryz.func85, Tryz.ntmps85
      go_wp2_with fail
      obtain ⟨w1, hw1⟩ : ∃ w1, w1 = w.alloc (.cells #[.int .i64 to, .int .i64 65535] 112) := ⟨_, rfl⟩
      have HA1 : Hid (Away [] w w1) := by show Away _ _ _; rw [hw1]; exact (Away.refl _ _).alloc _
      have K1 : w1.cell? ⟨w.heap.size, 0, none⟩ = some (.int .i64 to) := by rw [hw1]; simp
      have K2 : w1.cell? ⟨w.heap.size, 1, none⟩ = some (.int .i64 65535) := by rw [hw1]; simp
      rw [← hw1]
      clear hw1
      refine (met_c (to, 65535) (H.out.on HA1.out) HS.out).mono ?_
      rintro E w2 ⟨i, j, rfl, hmet, haw2⟩
      have hij := hmet.le
      have hjn : j ≤ n := by rw [HN.out]; exact hmet.len
      have HA2 := hidI (HA1.out.trans haw2)
      have k1 := haw2.cell (by simp) K1
      have k2 := haw2.cell (by simp) K2
      have H2 := hidI (H.out.on HA2.out)
      have c2 := (H.out.on HA2.out).c0
      clear haw2 K1 K2
      obtain ⟨A1, hA1⟩ : ∃ A1, A1 = if cap = i then a else a.map (·.add (i * 2)) := ⟨_, rfl⟩
      have hsl := slice_lh a A1 n cap i (j - i) (i : Int) (j : Int) hA1 rfl (by omega) (by omega)
      have HRow : Hid (Row w2 A1 ((m.drop i).take (j - i))) := by
        obtain ⟨a', cap', he, -, -, hr, -⟩ := H2.out.slice
        simp only [Value.slice.injEq] at he
        obtain ⟨rfl, -, rfl⟩ := he
        rw [hA1]
        exact (hr.tail i cap (by rw [← HN.out]; exact hcap) (by rw [← HN.out]; omega)).head (j - i)
      have hL : ((m.drop i).take (j - i)).length = j - i := by simp; rw [← HN.out]; omega
      have hMR : rightP ((m.drop i).take (j - i)) = true := hmet.mid HM.out
      have KH : Hid (∀ q, Calls Tryz.prog 96 #[.slice A1 (j - i) (cap - i), .agg #[.int .i64 to, .int .i64 65535]] (w2.drewN q) fun E w' => E = .returned (.bool z) ∧ Away [] w w') := fun q => by
        refine (has_c A1 _ (to, 65535) (j - i) (cap - i) (w2.drewN q) hL (HRow.out.drewN q)).mono ?_
        rintro E w' ⟨rfl, haw⟩
        refine ⟨?_, (HA2.out.drewN q).trans haw⟩
        rw [HQ.out, hMR, isB_iff.2 HS.out, hmet.has HM.out HS.out]
        rfl
      clear hmet hA1 HRow hL hMR
      go_wp2_with fail
      go_region_with (go_at_call 96; refine (KH.out 1).mono ?_; rintro E w3 ⟨rfl, haw3⟩)
      all_goals
        go_wp2_with fail
        go_ret
        exact ⟨rfl, haw3⟩
  · by_cases ht : to = e
    · have HQ : Hid (endOk m e to false = true) := by show _ = _; rw [HZ.out, if_neg he, ht]; simp
      generalize endOk m e to false = z at *
      clear h HZ
      go_enter Tryz.func85, Tryz.ntmps85
      go_wp2_with fail
      go_ret
      exact ⟨by rw [HQ.out]; rfl, Away.refl _ _⟩
    · have HQ : Hid (endOk m e to false = false) := by show _ = _; rw [HZ.out, if_neg he, decide_eq_false ht]
      generalize endOk m e to false = z at *
      clear h HZ
      have HT := hidI ht
      go_enter Tryz.func85, Tryz.ntmps85
      go_wp2_with fail
      go_ret
      exact ⟨by rw [HQ.out]; simp [HT.out], Away.refl _ _⟩
set_option maxHeartbeats 1000000 in
theorem end_c {w : World} {g : Nat} {v : Value} {m : List Sp} {e : Int} (h : Hl w g v m e) : Calls Tryz.prog 71 #[.pointer (some ⟨g, 0, none⟩)] w fun E w' => E = .returned (.int .i64 e) ∧ w' = w := by
  have c1 := h.c1
  clear h
  go_enter Tryz.func71, Tryz.ntmps71
  go_wp2_with fail
  go_ret
  exact ⟨rfl, rfl⟩
def doneP (m : List Sp) (e : Int) : Bool := decide (e ≠ -1) && decide (m = [])
set_option maxHeartbeats 1000000 in
theorem done_c {w : World} {g : Nat} {v : Value} {m : List Sp} {e : Int} (h : Hl w g v m e) : Calls Tryz.prog 69 #[.pointer (some ⟨g, 0, none⟩)] w fun E w' => E = .returned (.bool (doneP m e)) ∧ w' = w := by
  have c1 := h.c1
  obtain ⟨a, cap, hv, -⟩ := h.slice
  have c0 := h.c0
  rw [hv] at c0
  clear h hv
  by_cases he : e = -1
  · subst he
    have HZ : Hid (doneP m (-1) = false) := by show _ = _; simp [doneP]
    generalize doneP m (-1) = z at *
    go_enter Tryz.func69, Tryz.ntmps69
    go_wp2_with fail
    go_ret
    exact ⟨by rw [HZ.out]; simp_all, rfl⟩
  · by_cases hm : m = []
    · subst hm
      have HZ : Hid (doneP [] e = true) := by show _ = _; simp [doneP, he]
      generalize doneP [] e = z at *
      go_enter Tryz.func69, Tryz.ntmps69
      go_wp2_with fail
      go_ret
      exact ⟨by rw [HZ.out]; simp_all, rfl⟩
    · have HZ : Hid (doneP m e = false) := by show _ = _; simp [doneP, hm]
      have hl : ¬ ((m.length : Int) = 0) := fun h => hm (List.eq_nil_of_length_eq_zero (by omega))
      generalize doneP m e = z at *
      generalize m.length = n at *
      clear hm
      go_enter Tryz.func69, Tryz.ntmps69
      go_wp2_with fail
      go_ret
      exact ⟨by rw [HZ.out]; simp_all, rfl⟩
theorem eqnil27_some (a : Addr) (n c : Nat) (w : World) : (binOp .eql 102 (.slice (some a) n c) (.slice none 0 0)).run Tryz.prog w = .ok (.bool false) w := by kernel_rfl
theorem eqnil27_none (n c : Nat) (w : World) : (binOp .eql 102 (.slice none n c) (.slice none 0 0)).run Tryz.prog w = .ok (.bool true) w := by kernel_rfl
set_option maxHeartbeats 1000000 in
theorem clone_c (v : Value) (l : List Sp) (w : World) (hl : Lst w v l) (hr : rightP l = true) : Calls Tryz.prog 74 #[v] w fun E w' => ∃ r, E = .returned r ∧ Mk w w' r l := by
  obtain ⟨a, cap, hv, hcap, hnone, hrow, -⟩ := hl.row (by have := right_short hr; omega) (fun x hx => is_ok (right_is hr x hx))
  have hsh := right_short hr
  subst hv
  rcases a with _ | p
  · obtain rfl : l = [] := by rcases hrow.2.2 with h | ⟨_, _, h, _⟩ <;> simp_all
    have he := eqnil27_none
    go_enter Tryz.func74, Tryz.ntmps74
    go_wp2_with fail
    go_ret
    exact ⟨_, rfl, Mk.nil _⟩
  · have HR := hidI hrow
    clear hl hrow hnone hr
    have he := eqnil27_some p l.length cap
    go_enter Tryz.func74, Tryz.ntmps74
    go_wp2_with (at_builtin; refine wpList_appL rfl _ _ rfl _ [] l rfl (by exact (show Blk (w.alloc (.cells #[] 112)) w.heap.size 0 [] from ⟨block_new _ _, rfl⟩).lst (by unfold maxLen; omega) rfl (Nat.le_refl _) rfl) (some p) l.length cap rfl rfl (by simp) (by exact HR.out.on ((Away.refl [] w).alloc _)) (by simp; omega) ?_)
    intro v' w2 hown2 hgr hmov
    go_wp2_with fail
    go_ret
    refine ⟨_, rfl, by simpa using hown2, fun k hk => ?_, ?_⟩
    · rcases hmov k hk with h1 | h1
      · simp [Value.ownBlock] at h1; omega
      · simp at h1; omega
    · exact ((Away.refl _ _).alloc _).grown hgr (fun k hk => .inr (by simp [Value.ownBlock] at hk; omega))
set_option maxHeartbeats 1000000 in
theorem holes_c {w : World} {g : Nat} {v : Value} {m : List Sp} {e : Int} (h : Hl w g v m e) : Calls Tryz.prog 60 #[.pointer (some ⟨g, 0, none⟩)] w fun E w' => ∃ r, E = .returned r ∧ Mk w w' r m := by
  obtain ⟨a, cap, hv, -⟩ := h.slice
  have c0 := h.c0
  have KC := hidI (clone_c v m w h.lst h.right)
  rw [hv] at c0 KC
  clear h hv
  go_enter Tryz.func60, Tryz.ntmps60
  go_wp2_with fail
  refine KC.out.mono ?_
  rintro E w2 ⟨r, rfl, hmk⟩
  have HM := hidI hmk
  clear hmk
  go_wp2_with fail
  go_ret
  exact ⟨r, rfl, HM.out⟩
set_option maxHeartbeats 1000000 in
theorem new_c (w : World) : Calls Tryz.prog 78 #[] w fun E w' => ∃ g v, E = .returned (.pointer (some ⟨g, 0, none⟩)) ∧ Hl w' g v [(0, 65535)] (-1) ∧ w.heap.size ≤ g ∧ New w.heap.size v ∧ Away [] w w' := by
  go_enter Tryz.func78, Tryz.ntmps78
  go_wp2_with fail
  go_ret
  refine ⟨w.heap.size + 1, .slice (some ⟨w.heap.size, 0, none⟩) 1 1, rfl, ⟨?_, ?_, fun k hk => ?_, rfl⟩, by omega, fun k hk => by simp [Value.ownBlock] at hk; omega, ((Away.refl _ _).alloc _).alloc _⟩
  · have := block_new (w.alloc (.cells #[.int .i64 0, .int .i64 65535] 112)) (.cells #[.slice (some ⟨w.heap.size, 0, none⟩) 1 1, .int .i64 (-1)] 114)
    rw [show (w.alloc (.cells #[.int .i64 0, .int .i64 65535] 112)).heap.size = w.heap.size + 1 from by simp] at this
    exact this
  · exact (show Blk _ w.heap.size 1 [.int .i64 0, .int .i64 65535] from ⟨((Away.refl [] _).alloc _).keep (by simp) (block_new w _), rfl⟩).lst (by unfold maxLen; omega) rfl (Nat.le_refl _) rfl
  · simp [Value.ownBlock] at hk; omega
def PutOut (w : World) (g : Nat) (v : Value) (m : List Sp) (e off n : Int) (more : Bool) (E : Ending) (w' : World) : Prop :=
  (putOk m e off n more = true ∧ ∃ r v', E = .returned (.tuple #[r, .int .i64 0]) ∧ Took w w' g v r v' (freshP m (off, off + n)) (putM m off n more) (putE e off n more)) ∨
  (putOk m e off n more = false ∧ E = .returned (.tuple #[.slice none 0 0, .int .i64 1]) ∧ Away [] w w')
theorem Took.on {w0 w w' : World} {g : Nat} {v r v' : Value} {f c : List Sp} {e : Int} (h : Took w w' g v r v' f c e) (hw : Away [] w0 w) : Took w0 w' g v r v' f c e :=
  ⟨h.fresh, h.new.mono hw.size, h.hl, fun k hk => by rcases h.moved k hk with h1 | h1; exact .inl h1; exact .inr (Nat.le_trans hw.size h1), h.apart, (hw.mono (by simp)).next h.aw (fun z hz => .inl hz)⟩
set_option maxHeartbeats 4000000 in
theorem put_c' {w : World} {g : Nat} {v : Value} {m : List Sp} {e : Int} (off n : Int) (more : Bool) (h : Hl w g v m e) (ho : I64 off) (hn : I64 n) :
    Calls Tryz.prog 80 #[.pointer (some ⟨g, 0, none⟩), .int .i64 off, .int .i64 n, .bool more] w fun E w' => PutOut w g v m e off n more E w' := by
  unfold I64 at ho hn
  by_cases ha : 0 ≤ off ∧ 1 ≤ n ∧ n ≤ 65535 - off
  · have HARG : Hid (argOk off n = true) := arg_iff.2 ha
    obtain ⟨a1, a2, a3⟩ := ha
    have H := hidI h
    clear h
    cases hk : endOk m e (off + n) more
    · have HNO : Hid (putOk m e off n more = false) := by show _ = _; unfold putOk; rw [hk]; simp
      cases more
      · have KE := hidI (mayEnd_c (off + n) H.out (by omega) (by omega))
        rw [hk] at KE
        go_enter Tryz.func80, Tryz.ntmps80
        go_wp2_with fail
        refine KE.out.mono ?_
        rintro E w2 ⟨rfl, haw2⟩
        go_wp2_with fail
        go_ret2
        exact .inr ⟨HNO.out, rfl, haw2⟩
      · have KE := hidI (reach_c (off + n) H.out)
        rw [hk] at KE
        go_enter Tryz.func80, Tryz.ntmps80
        go_wp2_with fail
        refine KE.out.mono ?_
        rintro E w2 ⟨rfl, rfl⟩
        go_wp2_with fail
        go_ret2
        exact .inr ⟨HNO.out, rfl, Away.refl _ _⟩
    · have HYES : Hid (putOk m e off n more = true) := by show _ = _; unfold putOk; rw [hk, HARG.out]; rfl
      have HI : Hid (Is (off, off + n)) := arg_is HARG.out
      cases more
      · have KE := hidI (mayEnd_c (off + n) H.out (by omega) (by omega))
        rw [hk] at KE
        go_enter Tryz.func80, Tryz.ntmps80
        go_wp2_with fail
        refine KE.out.mono ?_
        rintro E w2 ⟨rfl, haw2⟩
        have HA2 := hidI haw2
        have KT : Hid (Calls Tryz.prog 86 #[.pointer (some ⟨g, 0, none⟩), .agg #[.int .i64 off, .int .i64 (off + n)]] w2 fun E w' => TakeOut w2 g v (freshP m (off, off + n)) (cutP m (off, off + n)) e E w') := take_c (off, off + n) (H.out.on haw2) HI.out
        clear haw2
        go_wp2_with fail
        refine KT.out.mono ?_
        rintro E w3 ⟨r, v3, rfl, ht⟩
        have HT := hidI ht
        have KA := hidI (endAt_c (off + n) ht.hl (by omega) (by omega))
        clear ht
        go_wp2_with fail
        refine KA.out.mono ?_
        rintro E w4 ⟨v4, rfl, hh, hmv, haw4⟩
        have HT4 : Hid (Took w w4 g v r v4 (freshP m (off, off + n)) (putM m off n false) (putE e off n false)) := by
          have t := HT.out
          have hr : ∀ k, r.ownBlock = some k → k ∉ g :: v3.ownBlock.toList := fun k hk hc => by
            simp only [List.mem_cons, Option.mem_toList] at hc
            rcases hc with hc | hc
            · have := t.new k hk
              have := lt_of_block (H.out.on HA2.out).blk
              omega
            · exact t.apart k hk hc
          refine (show Took w2 w4 g v r v4 _ _ _ from ⟨t.fresh.away haw4 hr, t.new, hh, fun k hk => ?_, fun k hk hc => ?_, t.aw.next haw4 (fun z hz => ?_)⟩).on HA2.out
          · rcases hmv k hk with h1 | h1
            · exact t.moved k h1
            · have := t.aw.size; exact .inr (by omega)
          · rcases hmv k hc with h1 | h1
            · exact t.apart k hk h1
            · have := t.fresh.lt k hk; omega
          · simp only [List.mem_cons, Option.mem_toList] at hz ⊢
            rcases hz with hz | hz
            · exact .inl (.inl hz)
            · rcases t.moved z hz with h1 | h1
              · exact .inl (.inr h1)
              · exact .inr h1
        clear hh hmv haw4
        go_wp2_with fail
        go_ret2
        exact .inl ⟨HYES.out, r, v4, rfl, HT4.out⟩
      · have KE := hidI (reach_c (off + n) H.out)
        rw [hk] at KE
        have KT : Hid (Calls Tryz.prog 86 #[.pointer (some ⟨g, 0, none⟩), .agg #[.int .i64 off, .int .i64 (off + n)]] w fun E w' => TakeOut w g v (freshP m (off, off + n)) (cutP m (off, off + n)) e E w') := take_c (off, off + n) H.out HI.out
        go_enter Tryz.func80, Tryz.ntmps80
        go_wp2_with fail
        refine KE.out.mono ?_
        rintro E w2 ⟨rfl, rfl⟩
        go_wp2_with fail
        refine KT.out.mono ?_
        rintro E w3 ⟨r, v3, rfl, ht⟩
        have HT := hidI ht
        clear ht
        go_wp2_with fail
        go_ret2
        exact .inl ⟨HYES.out, r, v3, rfl, HT.out⟩
  · have HNO : Hid (putOk m e off n more = false) := by
      show _ = _
      unfold putOk
      rw [show argOk off n = false from by rw [Bool.eq_false_iff]; intro hc; exact ha (arg_iff.1 hc)]
      rfl
    clear h
    by_cases b1 : off < 0
    · go_enter Tryz.func80, Tryz.ntmps80
      go_wp2_with fail
      go_ret2
      exact .inr ⟨HNO.out, rfl, Away.refl _ _⟩
    · by_cases b2 : n < 1
      · go_enter Tryz.func80, Tryz.ntmps80
        go_wp2_with fail
        go_ret2
        exact .inr ⟨HNO.out, rfl, Away.refl _ _⟩
      · have b3 : 65535 - off < n := by omega
        clear ha
        go_enter Tryz.func80, Tryz.ntmps80
        go_wp2_with fail
        go_ret2
        exact .inr ⟨HNO.out, rfl, Away.refl _ _⟩
end Go.Proofs.YtkccpidgeecemaaGreatDoor.H
