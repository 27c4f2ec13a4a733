/-
  A hole list in memory; which holes meet a span; what of them is in it.
-/
import Derived.Test.YtkccpidgeecemaaGreatDoorHRpA
import Derived.Test.YtkccpidgeecemaaGreatDoorHHol
import Derived.Laws.EntriesVeiled
namespace Go.Proofs.YtkccpidgeecemaaGreatDoor.H
open Go.ChangeShapes Go.WideShapes Go.ChangeAt Go.RowKit
set_option linter.unusedVariables false
set_option linter.unusedSimpArgs false

/-- A hole list at block g. -/
structure Hl (w : World) (g : Nat) (v : Value) (m : List Sp) (e : Int) : Prop where
  blk : w.heap[g]? = some (.cells #[v, .int .i64 e] 114 (0, 0))
  lst : Lst w v m
  own : ∀ k, v.ownBlock = some k → k ≠ g
  right : rightP m = true
theorem Hl.away {S : List Nat} {w w' : World} {g : Nat} {v : Value} {m : List Sp} {e : Int} (h : Hl w g v m e) (hw : Away S w w') (hg : g ∉ S) (hv : ∀ k, v.ownBlock = some k → k ∉ S) : Hl w' g v m e :=
  ⟨hw.keep hg h.blk, h.lst.away hw hv, h.own, h.right⟩
theorem Hl.on {w w' : World} {g : Nat} {v : Value} {m : List Sp} {e : Int} (h : Hl w g v m e) (hw : Away [] w w') : Hl w' g v m e := h.away hw (by simp) (by simp)
theorem Hl.c0 {w : World} {g : Nat} {v : Value} {m : List Sp} {e : Int} (h : Hl w g v m e) : w.cell? ⟨g, 0, none⟩ = some v := by rw [cell_of_block h.blk]; rfl
theorem Hl.c1 {w : World} {g : Nat} {v : Value} {m : List Sp} {e : Int} (h : Hl w g v m e) : w.cell? ⟨g, 1, none⟩ = some (.int .i64 e) := by rw [cell_of_block h.blk]; rfl
theorem Hl.free {w : World} {g : Nat} {v : Value} {m : List Sp} {e : Int} (h : Hl w g v m e) (i : Nat) : w.frozen? ⟨g, i, none⟩ = false := free_of_block h.blk i
theorem is_ok {x : Sp} (h : Is x) : OkS x := by unfold Is at h; unfold OkS I64; omega
theorem Hl.slice {w : World} {g : Nat} {v : Value} {m : List Sp} {e : Int} (h : Hl w g v m e) :
    ∃ a cap, v = .slice a m.length cap ∧ m.length ≤ cap ∧ (a = none → cap = 0) ∧ Row w a m ∧ (∀ p, a = some p → v.ownBlock = some p.block ∧ p.off = 0 ∧ p.spot = none) :=
  h.lst.row (by have := right_short h.right; omega) (fun x hx => is_ok (right_is h.right x hx))
theorem right_up {m : List Sp} (h : rightP m = true) {t s : Nat} {x y : Sp} (hts : t < s) (hx : m[t]? = some x) (hy : m[s]? = some y) : x.1 < x.2 ∧ x.2 < y.1 ∧ y.1 < y.2 := by
  have e1 : m.drop t = x :: m.drop (t + 1) := drop_at hx
  have h1 := right_drop h t
  unfold rightP at h1
  rw [e1] at h1
  obtain ⟨a1, a2, a3⟩ := rf_cons.1 h1
  have hy' : y ∈ m.drop (t + 1) := List.mem_of_getElem? (i := s - (t + 1)) (by rw [List.getElem?_drop, show t + 1 + (s - (t + 1)) = s from by omega]; exact hy)
  have := rf_is a3 y hy'
  unfold Is at a1 this
  omega
def PartF (m : List Sp) (i : Nat) (P : Sp → Bool) : Prop := ∀ (t : Nat) (x : Sp), t < i → m[t]? = some x → P x = false
def PartT (m : List Sp) (i : Nat) (P : Sp → Bool) : Prop := ∀ (t : Nat) (x : Sp), i ≤ t → m[t]? = some x → P x = true
structure Parted (n : Nat) (m : List Sp) (i : Nat) (P : Sp → Bool) : Prop where
  le : i ≤ n
  f : PartF m i P
  t : PartT m i P
set_option maxHeartbeats 2000000 in
theorem pred39_c {w : World} {g p q : Nat} {e s1 s2 : Int} {a : Option Addr} {cap n : Nat} {m : List Sp} (k : Nat) (x : Sp) (hv : w.cell? ⟨g, 0, none⟩ = some (.slice a n cap)) (hn : m.length = n) (hr : Row w a m) (hx : m[k]? = some x)
    (hp : w.cell? ⟨p, 0, none⟩ = some (.pointer (some ⟨g, 0, none⟩))) (hq1 : w.cell? ⟨q, 0, none⟩ = some (.int .i64 s1)) (hq2 : w.cell? ⟨q, 1, none⟩ = some (.int .i64 s2)) :
    Calls Tryz.prog 103 #[.int .i64 k, .pointer (some ⟨p, 0, none⟩), .pointer (some ⟨q, 0, none⟩)] w fun E w' => E = .returned (.bool (decide (s1 < x.2))) ∧ ∃ n, w' = w.drewN n := by
  subst hn
  have hlen := hr.1
  have hk := get_lt hx
  obtain ⟨b, off, rfl, d1, d2, -⟩ := hr.at hx
  clear hr hx
  obtain ⟨x1, x2⟩ := x
  simp only at d1 d2 ⊢
  have t2 : 0 ≤ (k : Int) := by omega
  have t3 : (k : Int) < (m.length : Int) := by omega
  have t4 : ((k : Int)).toNat = k := by omega
  go_enter Tryz.func103, Tryz.ntmps103
  go_wp2_with fail
  go_quiet (fail)
  go_wp2_with fail
  go_ret
  exact ⟨by first | rfl | simp, _, rfl⟩
set_option maxHeartbeats 2000000 in
theorem pred40_c {w : World} {g p q : Nat} {e s1 s2 : Int} {a : Option Addr} {cap n : Nat} {m : List Sp} (k : Nat) (x : Sp) (hv : w.cell? ⟨g, 0, none⟩ = some (.slice a n cap)) (hn : m.length = n) (hr : Row w a m) (hx : m[k]? = some x)
    (hp : w.cell? ⟨p, 0, none⟩ = some (.pointer (some ⟨g, 0, none⟩))) (hq1 : w.cell? ⟨q, 0, none⟩ = some (.int .i64 s1)) (hq2 : w.cell? ⟨q, 1, none⟩ = some (.int .i64 s2)) :
    Calls Tryz.prog 104 #[.int .i64 k, .pointer (some ⟨p, 0, none⟩), .pointer (some ⟨q, 0, none⟩)] w fun E w' => E = .returned (.bool (decide (s2 ≤ x.1))) ∧ ∃ n, w' = w.drewN n := by
  subst hn
  have hlen := hr.1
  have hk := get_lt hx
  obtain ⟨b, off, rfl, d1, d2, -⟩ := hr.at hx
  clear hr hx
  obtain ⟨x1, x2⟩ := x
  simp only at d1 d2 ⊢
  have t2 : 0 ≤ (k : Int) := by omega
  have t3 : (k : Int) < (m.length : Int) := by omega
  have t4 : ((k : Int)).toNat = k := by omega
  go_enter Tryz.func104, Tryz.ntmps104
  go_wp2_with fail
  go_quiet (fail)
  go_wp2_with fail
  go_ret
  exact ⟨by first | rfl | simp, _, rfl⟩
set_option maxHeartbeats 2000000 in
theorem search39_c {w : World} {g p q : Nat} {s1 s2 : Int} {a : Option Addr} {cap n : Nat} {m : List Sp} (hv : w.cell? ⟨g, 0, none⟩ = some (.slice a n cap)) (hn : m.length = n) (hr : Row w a m)
    (hp : w.cell? ⟨p, 0, none⟩ = some (.pointer (some ⟨g, 0, none⟩))) (hq1 : w.cell? ⟨q, 0, none⟩ = some (.int .i64 s1)) (hq2 : w.cell? ⟨q, 1, none⟩ = some (.int .i64 s2)) (hup : rightP m = true) :
    Calls Tryz.prog 102 #[.int .i64 n, .func (.func 103) #[] #[.pointer (some ⟨p, 0, none⟩), .pointer (some ⟨q, 0, none⟩)]] w fun E w' => ∃ (i z : Nat), E = .returned (.int .i64 i) ∧ Parted n m i (fun x => decide (s1 < x.2)) ∧ w' = w.drewN z := by
  have hlen := hr.1
  rw [hn] at hlen
  have HP : Hid (∀ (z k : Nat) (x : Sp), m[k]? = some x → Calls Tryz.prog 103 #[.int .i64 k, .pointer (some ⟨p, 0, none⟩), .pointer (some ⟨q, 0, none⟩)] (w.drewN z) fun E w' => E = .returned (.bool (decide (s1 < x.2))) ∧ ∃ n, w' = (w.drewN z).drewN n) :=
    fun z k x hx => pred39_c (w := w.drewN z) (e := 0) k x hv hn (hr.drewN z) hx hp hq1 hq2
  have HU : Hid (∀ (t s : Nat) (x y : Sp), t ≤ s → m[t]? = some x → m[s]? = some y → s1 < x.2 → s1 < y.2) := fun t s x y hts hx hy h => by
    rcases Nat.lt_or_ge t s with h1 | h1
    · have := right_up hup h1 hx hy
      omega
    · obtain rfl : t = s := by omega
      rw [hx] at hy; simp at hy; subst hy; exact h
  have HN : Hid (m.length = n) := hn
  clear hr hp hq1 hq2 hup hv hn
  go_enter Tryz.func102, Tryz.ntmps102
  go_wp2_with fail
  go_loopw [5, 6] (fun i j wr => ∃ k r z : Nat, i = .int .i64 k ∧ j = .int .i64 r ∧ k ≤ r ∧ r ≤ n ∧ PartF m k (fun x => decide (s1 < x.2)) ∧ PartT m r (fun x => decide (s1 < x.2)) ∧ wr = w.drewN z) (fun i j _ => (intOf j).toNat - (intOf i).toNat)
  case atStart => exact ⟨0, n, 0, rfl, rfl, by omega, by omega, fun t x ht hx => by omega, fun t x ht hx => by have := get_lt hx; have := HN.out; omega, rfl⟩
  case round =>
    obtain ⟨k, r, z, rfl, rfl, hk, hm, h1, h2, rfl⟩ := hrel
    have H1 := hidI h1
    have H2 := hidI h2
    clear h1 h2
    by_cases hlt : k < r
    · obtain ⟨t, ht, ht1, ht2⟩ : ∃ t : Nat, ((k : Int) + r) / 2 = t ∧ k ≤ t ∧ t < r := ⟨(k + r) / 2, by omega, by omega, by omega⟩
      obtain ⟨x, hx, -⟩ := get_of (show t < m.length by have := HN.out; omega)
      have HC := HP.out z t x hx
      have HX : Hid (m[t]? = some x) := hx
      have HT : Hid (((k : Int) + r) / 2 = t) := ht
      clear hx ht
      by_cases hb : s1 < x.2
      · rw [decide_eq_true hb] at HC
        have HB : Hid (s1 < x.2) := hb
        clear hb
        go_wp2_with fail
        rw [HT.out]
        refine HC.mono ?_
        rintro E w2 ⟨rfl, z2, rfl⟩
        go_wp2_with fail
        go_roundw
        case rel => exact ⟨k, t, z + z2, rfl, rfl, by omega, by omega, H1.out, fun s y hs hy => decide_eq_true (HU.out t s x y hs HX.out hy HB.out), by first | rfl | (simp [World.drewN]; try omega)⟩
        case measure => simp [intOf]; omega
      · rw [decide_eq_false hb] at HC
        have HB := hidI hb
        clear hb
        go_wp2_with fail
        rw [HT.out]
        refine HC.mono ?_
        rintro E w2 ⟨rfl, z2, rfl⟩
        go_wp2_with fail
        go_roundw
        case rel => exact ⟨t + 1, r, z + z2, by go_num, rfl, by omega, by omega, fun s y hs hy => decide_eq_false (fun hc => by have h1 := HU.out s t y x (by omega) hy HX.out hc; have h2 := HB.out; omega), H2.out, by first | rfl | (simp [World.drewN]; try omega)⟩
        case measure => simp [intOf]; omega
    · go_wp2_with fail
      go_ret
      obtain rfl : k = r := by omega
      exact ⟨k, z, rfl, ⟨hm, H1.out, H2.out⟩, rfl⟩
set_option maxHeartbeats 2000000 in
theorem search40_c {w : World} {g p q : Nat} {s1 s2 : Int} {a : Option Addr} {cap n : Nat} {m : List Sp} (hv : w.cell? ⟨g, 0, none⟩ = some (.slice a n cap)) (hn : m.length = n) (hr : Row w a m)
    (hp : w.cell? ⟨p, 0, none⟩ = some (.pointer (some ⟨g, 0, none⟩))) (hq1 : w.cell? ⟨q, 0, none⟩ = some (.int .i64 s1)) (hq2 : w.cell? ⟨q, 1, none⟩ = some (.int .i64 s2)) (hup : rightP m = true) :
    Calls Tryz.prog 102 #[.int .i64 n, .func (.func 104) #[] #[.pointer (some ⟨p, 0, none⟩), .pointer (some ⟨q, 0, none⟩)]] w fun E w' => ∃ (i z : Nat), E = .returned (.int .i64 i) ∧ Parted n m i (fun x => decide (s2 ≤ x.1)) ∧ w' = w.drewN z := by
  have hlen := hr.1
  rw [hn] at hlen
  have HP : Hid (∀ (z k : Nat) (x : Sp), m[k]? = some x → Calls Tryz.prog 104 #[.int .i64 k, .pointer (some ⟨p, 0, none⟩), .pointer (some ⟨q, 0, none⟩)] (w.drewN z) fun E w' => E = .returned (.bool (decide (s2 ≤ x.1))) ∧ ∃ n, w' = (w.drewN z).drewN n) :=
    fun z k x hx => pred40_c (w := w.drewN z) (e := 0) k x hv hn (hr.drewN z) hx hp hq1 hq2
  have HU : Hid (∀ (t s : Nat) (x y : Sp), t ≤ s → m[t]? = some x → m[s]? = some y → s2 ≤ x.1 → s2 ≤ y.1) := fun t s x y hts hx hy h => by
    rcases Nat.lt_or_ge t s with h1 | h1
    · have := right_up hup h1 hx hy
      omega
    · obtain rfl : t = s := by omega
      rw [hx] at hy; simp at hy; subst hy; exact h
  have HN : Hid (m.length = n) := hn
  clear hr hp hq1 hq2 hup hv hn
  go_enter Tryz.func102, Tryz.ntmps102
  go_wp2_with fail
  go_loopw [5, 6] (fun i j wr => ∃ k r z : Nat, i = .int .i64 k ∧ j = .int .i64 r ∧ k ≤ r ∧ r ≤ n ∧ PartF m k (fun x => decide (s2 ≤ x.1)) ∧ PartT m r (fun x => decide (s2 ≤ x.1)) ∧ wr = w.drewN z) (fun i j _ => (intOf j).toNat - (intOf i).toNat)
  case atStart => exact ⟨0, n, 0, rfl, rfl, by omega, by omega, fun t x ht hx => by omega, fun t x ht hx => by have := get_lt hx; have := HN.out; omega, rfl⟩
  case round =>
    obtain ⟨k, r, z, rfl, rfl, hk, hm, h1, h2, rfl⟩ := hrel
    have H1 := hidI h1
    have H2 := hidI h2
    clear h1 h2
    by_cases hlt : k < r
    · obtain ⟨t, ht, ht1, ht2⟩ : ∃ t : Nat, ((k : Int) + r) / 2 = t ∧ k ≤ t ∧ t < r := ⟨(k + r) / 2, by omega, by omega, by omega⟩
      obtain ⟨x, hx, -⟩ := get_of (show t < m.length by have := HN.out; omega)
      have HC := HP.out z t x hx
      have HX : Hid (m[t]? = some x) := hx
      have HT : Hid (((k : Int) + r) / 2 = t) := ht
      clear hx ht
      by_cases hb : s2 ≤ x.1
      · rw [decide_eq_true hb] at HC
        have HB : Hid (s2 ≤ x.1) := hb
        clear hb
        go_wp2_with fail
        rw [HT.out]
        refine HC.mono ?_
        rintro E w2 ⟨rfl, z2, rfl⟩
        go_wp2_with fail
        go_roundw
        case rel => exact ⟨k, t, z + z2, rfl, rfl, by omega, by omega, H1.out, fun s y hs hy => decide_eq_true (HU.out t s x y hs HX.out hy HB.out), by first | rfl | (simp [World.drewN]; try omega)⟩
        case measure => simp [intOf]; omega
      · rw [decide_eq_false hb] at HC
        have HB := hidI hb
        clear hb
        go_wp2_with fail
        rw [HT.out]
        refine HC.mono ?_
        rintro E w2 ⟨rfl, z2, rfl⟩
        go_wp2_with fail
        go_roundw
        case rel => exact ⟨t + 1, r, z + z2, by go_num, rfl, by omega, by omega, fun s y hs hy => decide_eq_false (fun hc => by have h1 := HU.out s t y x (by omega) hy HX.out hc; have h2 := HB.out; omega), H2.out, by first | rfl | (simp [World.drewN]; try omega)⟩
        case measure => simp [intOf]; omega
    · go_wp2_with fail
      go_ret
      obtain rfl : k = r := by omega
      exact ⟨k, z, rfl, ⟨hm, H1.out, H2.out⟩, rfl⟩
set_option maxHeartbeats 2000000 in
theorem met_c {w : World} {g : Nat} {v : Value} {m : List Sp} {e : Int} (s : Sp) (h : Hl w g v m e) (hs : Is s) :
    Calls Tryz.prog 95 #[.pointer (some ⟨g, 0, none⟩), valS s] w fun E w' => ∃ i j : Nat, E = .returned (.tuple #[.int .i64 i, .int .i64 j]) ∧ Met m s i j ∧ Away [] w w' := by
  obtain ⟨a, cap, hv, hcap, hnone, hrow, -⟩ := h.slice
  have hlen := hrow.1
  have hm := h.right
  have k0 := h.c0
  rw [hv] at k0
  have HR := hidI hrow
  have HM := hidI hm
  have HS := hidI hs
  have hg := lt_of_block h.blk
  obtain ⟨s1, s2⟩ := s
  simp only [valS]
  have hg1 : ¬ (g = w.heap.size) := by omega
  have hg2 : ¬ (g = w.heap.size + 1) := by omega
  have hmf : ∀ (fn : Fn) (first cap : Array Value) (w : World), (Instr.makeFunc fn first cap).run Tryz.prog w = .ok (.func fn first cap) w := fun _ _ _ _ => rfl
  obtain ⟨n, hn⟩ : ∃ n, n = m.length := ⟨_, rfl⟩
  rw [← hn] at k0 hcap hlen
  have HN := hidI hn.symm
  clear h hrow hv hn hm hs
  go_enter Tryz.func95, Tryz.ntmps95
  go_wp2_with fail
  have haw := ((Away.refl [] w).alloc (.cells #[.pointer (some ⟨g, 0, none⟩)] 98)).alloc (.cells #[.int .i64 s1, .int .i64 s2] 112)
  generalize hW : (w.alloc (.cells #[.pointer (some ⟨g, 0, none⟩)] 98)).alloc (.cells #[.int .i64 s1, .int .i64 s2] 112) = W at *
  have b0 : W.cell? ⟨w.heap.size, 0, none⟩ = some (.pointer (some ⟨g, 0, none⟩)) := by rw [← hW]; simp
  have b1 : W.cell? ⟨w.heap.size + 1, 0, none⟩ = some (.int .i64 s1) := by rw [← hW]; simp
  have b2 : W.cell? ⟨w.heap.size + 1, 1, none⟩ = some (.int .i64 s2) := by rw [← hW]; simp
  have kW : W.cell? ⟨g, 0, none⟩ = some (.slice a n cap) := haw.cell (by simp) k0
  have HRW := hidI (HR.out.on haw)
  have HAW := hidI haw
  clear hW k0 haw
  refine (search39_c (g := g) (p := w.heap.size) (q := w.heap.size + 1) (s1 := s1) (s2 := s2) (a := a) (cap := cap) (n := n) (m := m) kW HN.out HRW.out b0 b1 b2 HM.out).mono ?_
  rintro E w2 ⟨i, z, rfl, hi, rfl⟩
  have H1 := hidI hi
  clear hi
  go_wp2_with fail
  refine (search40_c (w := W.drewN z) (g := g) (p := w.heap.size) (q := w.heap.size + 1) (s1 := s1) (s2 := s2) (a := a) (cap := cap) (n := n) (m := m) kW HN.out (HRW.out.drewN z) b0 b1 b2 HM.out).mono ?_
  rintro E w3 ⟨j, z2, rfl, hj, rfl⟩
  have H3 := hidI hj
  clear hj
  go_wp2_with fail
  go_ret2
  refine ⟨i, j, rfl, met_of HS.out (right_is HM.out) (by rw [HN.out]; exact H1.out.le) (by rw [HN.out]; exact H3.out.le) (fun t x ht hx => ?_) (fun t x ht hx => ?_) (fun t x ht hx => ?_) (fun t x ht hx => ?_), HAW.out.drewN _⟩
  · have := of_decide_eq_false (H1.out.f t x ht hx); show x.2 ≤ s1; omega
  · exact of_decide_eq_true (H1.out.t t x ht hx)
  · have := of_decide_eq_false (H3.out.f t x ht hx); show x.1 < s2; omega
  · exact of_decide_eq_true (H3.out.t t x ht hx)
set_option maxHeartbeats 4000000 in
theorem clipped_c (a : Option Addr) (l : List Sp) (s : Sp) (n cap : Nat) (w : World) (hn : l.length = n) (hr : Row w a l) :
    Calls Tryz.prog 97 #[.slice a n cap, valS s] w fun E w' => ∃ v, E = .returned v ∧ Mk w w' v (l.map (clipS s)) := by
  subst hn
  have hlen := hr.1
  have HR : Hid (Row w a l) := hr
  clear hr
  obtain ⟨s1, s2⟩ := s
  simp only [valS]
  have HB : Hid (Away [] w (w.alloc (.cells #[.int .i64 s1, .int .i64 s2] 112))) := (Away.refl _ _).alloc _
  obtain ⟨w1, hw1⟩ : ∃ w1, w1 = w.alloc (.cells #[.int .i64 s1, .int .i64 s2] 112) := ⟨_, rfl⟩
  have K1 : w1.cell? ⟨w.heap.size, 0, none⟩ = some (.int .i64 s1) := by rw [hw1]; simp
  have K2 : w1.cell? ⟨w.heap.size, 1, none⟩ = some (.int .i64 s2) := by rw [hw1]; simp
  go_enter Tryz.func97, Tryz.ntmps97
  go_wp2_with fail
  rw [← hw1] at HB ⊢
  have HBS : Hid (w.heap.size < w1.heap.size) := block_lt_of_cell K1
  clear hw1
  go_loopw [5, 10] (fun v i wr => ∃ k : Nat, k ≤ l.length ∧ i = .int .i64 k ∧ Mk w1 wr v ((l.take k).map (clipS (s1, s2)))) (fun _ i _ => l.length - (intOf i).toNat)
  case atStart => exact ⟨0, by omega, rfl, Mk.nil _⟩
  case round =>
    obtain ⟨k, hk, rfl, hm⟩ := hrel
    have HM : Hid (Mk w1 wr u5 ((l.take k).map (clipS (s1, s2)))) := hm
    have q1 := hm.2.2.cell (by simp) K1
    have q2 := hm.2.2.cell (by simp) K2
    by_cases hlt : k < l.length
    · obtain ⟨x, hx, _⟩ := get_of hlt
      obtain ⟨b, off, rfl, c1, c2, -⟩ := ((HR.out.on HB.out).on hm.2.2).at hx
      have HT : Hid ((l.take (k + 1)).map (clipS (s1, s2)) = (l.take k).map (clipS (s1, s2)) ++ [(max x.1 s1, min x.2 s2)]) := by show _ = _; rw [take_snoc hx]; simp [clipS]
      have HLN : Hid (((l.take k).map (clipS (s1, s2))).length < 8796093022208) := by show _ < _; simp; omega
      clear hx hm
      obtain ⟨x1, x2⟩ := x
      simp only at c1 c2 HT
      generalize (l.take k).map (clipS (s1, s2)) = r at *
      have q3 : (wr.alloc (.cells #[.int .i64 x1, .int .i64 x2] 112)).cell? ⟨w.heap.size, 0, none⟩ = some (.int .i64 s1) := ((Away.refl [] wr).alloc _).cell (by simp) q1
      have q4 : (wr.alloc (.cells #[.int .i64 x1, .int .i64 x2] 112)).cell? ⟨w.heap.size, 1, none⟩ = some (.int .i64 s2) := ((Away.refl [] wr).alloc _).cell (by simp) q2
      clear q1 q2
      rcases (show (min x2 s2 = x2 ∧ x2 ≤ s2) ∨ (min x2 s2 = s2 ∧ s2 < x2) by omega) with ⟨e1, o1⟩ | ⟨e1, o1⟩
      · rcases (show (max x1 s1 = x1 ∧ s1 ≤ x1) ∨ (max x1 s1 = s1 ∧ x1 < s1) by omega) with ⟨e2, o2⟩ | ⟨e2, o2⟩
        · go_wp2_with (at_builtin; refine wpList_app2 rfl _ _ rfl _ r rfl (by exact HM.out.1.on (((Away.refl [] _).alloc _).alloc _)) ⟨_, 0, none⟩ 1 rfl (x1, x2) (by simp) (by rw [add_plain]; simp) (by have := HLN.out; omega) ?_)
          intro v' w2 hown2 hgr hmov
          have haw2 : Mk w1 w2 v' (r ++ [(x1, x2)]) := ⟨hown2, HM.out.2.1.moved hmov (by have := HM.out.2.2.size; simp; omega), ((HM.out.2.2.alloc _).alloc _).step hgr HM.out.2.1⟩
          have HM2 := hidI haw2
          clear hown2 hgr hmov haw2
          go_wp2_with fail
          go_roundw
          case rel => exact ⟨k + 1, by omega, by go_num, by rw [HT.out, e1, e2]; exact HM2.out⟩
          case measure => simp [intOf]; omega
        · go_wp2_with (at_builtin; refine wpList_app2 rfl _ _ rfl _ r rfl (by exact HM.out.1.on (((Away.refl [] _).alloc _).alloc _)) ⟨_, 0, none⟩ 1 rfl (s1, x2) (by simp) (by rw [add_plain]; simp) (by have := HLN.out; omega) ?_)
          intro v' w2 hown2 hgr hmov
          have haw2 : Mk w1 w2 v' (r ++ [(s1, x2)]) := ⟨hown2, HM.out.2.1.moved hmov (by have := HM.out.2.2.size; simp; omega), ((HM.out.2.2.alloc _).alloc _).step hgr HM.out.2.1⟩
          have HM2 := hidI haw2
          clear hown2 hgr hmov haw2
          go_wp2_with fail
          go_roundw
          case rel => exact ⟨k + 1, by omega, by go_num, by rw [HT.out, e1, e2]; exact HM2.out⟩
          case measure => simp [intOf]; omega
      · rcases (show (max x1 s1 = x1 ∧ s1 ≤ x1) ∨ (max x1 s1 = s1 ∧ x1 < s1) by omega) with ⟨e2, o2⟩ | ⟨e2, o2⟩
        · go_wp2_with (at_builtin; refine wpList_app2 rfl _ _ rfl _ r rfl (by exact HM.out.1.on (((Away.refl [] _).alloc _).alloc _)) ⟨_, 0, none⟩ 1 rfl (x1, s2) (by simp) (by rw [add_plain]; simp) (by have := HLN.out; omega) ?_)
          intro v' w2 hown2 hgr hmov
          have haw2 : Mk w1 w2 v' (r ++ [(x1, s2)]) := ⟨hown2, HM.out.2.1.moved hmov (by have := HM.out.2.2.size; simp; omega), ((HM.out.2.2.alloc _).alloc _).step hgr HM.out.2.1⟩
          have HM2 := hidI haw2
          clear hown2 hgr hmov haw2
          go_wp2_with fail
          go_roundw
          case rel => exact ⟨k + 1, by omega, by go_num, by rw [HT.out, e1, e2]; exact HM2.out⟩
          case measure => simp [intOf]; omega
        · go_wp2_with (at_builtin; refine wpList_app2 rfl _ _ rfl _ r rfl (by exact HM.out.1.on (((Away.refl [] _).alloc _).alloc _)) ⟨_, 0, none⟩ 1 rfl (s1, s2) (by simp) (by rw [add_plain]; simp) (by have := HLN.out; omega) ?_)
          intro v' w2 hown2 hgr hmov
          have haw2 : Mk w1 w2 v' (r ++ [(s1, s2)]) := ⟨hown2, HM.out.2.1.moved hmov (by have := HM.out.2.2.size; simp; omega), ((HM.out.2.2.alloc _).alloc _).step hgr HM.out.2.1⟩
          have HM2 := hidI haw2
          clear hown2 hgr hmov haw2
          go_wp2_with fail
          go_roundw
          case rel => exact ⟨k + 1, by omega, by go_num, by rw [HT.out, e1, e2]; exact HM2.out⟩
          case measure => simp [intOf]; omega
    · go_wp2_with fail
      go_ret
      have := HM.out.base HB.out
      rw [List.take_of_length_le (by omega)] at this
      exact ⟨_, rfl, this⟩
end Go.Proofs.YtkccpidgeecemaaGreatDoor.H
