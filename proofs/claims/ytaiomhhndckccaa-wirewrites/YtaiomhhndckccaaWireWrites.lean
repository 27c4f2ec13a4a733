/-
  WireWrites: the walk, and the row's step.
-/
import Derived.Test.YtaiomhhndckccaaWrites
namespace Go.Proofs.Ytaiomhhndckccaa.wireWrites
open Go.ChangeShapes Go.WideShapes Go.ChangeAt Go.RowKit Go.Deep
set_option linter.unusedVariables false

theorem and_one (n : Int) : bits .and .i64 n 1 = 0 ∨ bits .and .i64 n 1 = 1 := by
  have e : bits .and .i64 n 1 = IntKind.i64.wrap (((BitVec.ofInt 64 n).toNat % 2 : Nat) : Int) := by
    show IntKind.i64.wrap (((BitVec.ofInt 64 n &&& BitVec.ofInt 64 1).toNat : Nat) : Int) = _
    rw [BitVec.toNat_and, show (BitVec.ofInt 64 1).toNat = 1 from rfl, Nat.and_one_is_mod]
  rw [e]
  rcases Nat.mod_two_eq_zero_or_one (BitVec.ofInt 64 n).toNat with h | h
  · rw [h]; left; rfl
  · rw [h]; right; rfl
/-- Two pairs of writers that know nothing of one another. -/
structure WSt (w wr : World) (ra ma g0 : Nat) (v0 : Value) (h0 : Nat) (u0 : Value) (lim0 : Int) (g1 : Nat) (v1 : Value) (h1 : Nat) (u1 : Value) (lim1 : Int) : Prop where
  aw : Away [] w wr
  ca0 : wr.cell? ⟨ra, 0, none⟩ = some (.pointer (some ⟨g0, 0, none⟩))
  ca1 : wr.cell? ⟨ra, 1, none⟩ = some (.pointer (some ⟨g1, 0, none⟩))
  cm0 : wr.cell? ⟨ma, 0, none⟩ = some (.pointer (some ⟨h0, 0, none⟩))
  cm1 : wr.cell? ⟨ma, 1, none⟩ = some (.pointer (some ⟨h1, 0, none⟩))
  st0 : ∃ l e, Wr wr g0 v0 lim0 l e ∧ Mw wr h0 u0 lim0 l e
  d0 : ∀ k ∈ fp g0 v0, k ∉ fp h0 u0
  st1 : ∃ l e, Wr wr g1 v1 lim1 l e ∧ Mw wr h1 u1 lim1 l e
  d1 : ∀ k ∈ fp g1 v1, k ∉ fp h1 u1
  sep : ∀ k ∈ fp g0 v0 ++ fp h0 u0, k ∉ fp g1 v1 ++ fp h1 u1
  b0 : ∀ k ∈ fp g0 v0 ++ fp h0 u0, w.heap.size ≤ k ∧ k ≠ ra ∧ k ≠ ma
  b1 : ∀ k ∈ fp g1 v1 ++ fp h1 u1, w.heap.size ≤ k ∧ k ≠ ra ∧ k ≠ ma
theorem both_split {w w' : World} {g h : Nat} {v v' u u' : Value} {lim : Int} {l : List Int} {e : Int} (hb : Both w w' g v v' h u u' lim l e) : ∀ k ∈ fp g v' ++ fp h u', k ∈ fp g v ++ fp h u ∨ w.heap.size ≤ k := by
  intro k hk
  rcases List.mem_append.mp hk with hk | hk
  · rcases fp_split hb.2.2.1 k hk with h | h
    · exact .inl (List.mem_append_left _ h)
    · exact .inr h
  · rcases fp_split hb.2.2.2.1 k hk with h | h
    · exact .inl (List.mem_append_right _ h)
    · exact .inr h
theorem pair_lt {w : World} {g h : Nat} {v u : Value} {lim : Int} {l : List Int} {e : Int} (h1 : Wr w g v lim l e) (h2 : Mw w h u lim l e) : ∀ k ∈ fp g v ++ fp h u, k < w.heap.size := by
  intro k hk
  rcases List.mem_append.mp hk with hk | hk
  · exact fp_lt h1.lt.1 h1.lt.2 k hk
  · exact fp_lt h2.lt.1 h2.lt.2 k hk
theorem WSt.first {w wr w' : World} {ra ma g0 h0 g1 h1 : Nat} {v0 u0 v1 u1 v' u' : Value} {lim0 lim1 : Int} {l : List Int} {e : Int} (h : WSt w wr ra ma g0 v0 h0 u0 lim0 g1 v1 h1 u1 lim1) (hb : Both wr w' g0 v0 v' h0 u0 u' lim0 l e) : WSt w w' ra ma g0 v' h0 u' lim0 g1 v1 h1 u1 lim1 := by
  have hsp := both_split hb
  obtain ⟨q1, q2, q3, q4, q5, q6⟩ := hb
  obtain ⟨l1, e1, s1, s2⟩ := h.st1
  have hl1 := pair_lt s1 s2
  have hra : ra < wr.heap.size := block_lt_of_cell h.ca0
  have hma : ma < wr.heap.size := block_lt_of_cell h.cm0
  have nra : ra ∉ fp g0 v0 ++ fp h0 u0 := fun hm => (h.b0 _ hm).2.1 rfl
  have nma : ma ∉ fp g0 v0 ++ fp h0 u0 := fun hm => (h.b0 _ hm).2.2 rfl
  have hsz := h.aw.size
  have n1 : ∀ k ∈ fp g1 v1 ++ fp h1 u1, k ∉ fp g0 v0 ++ fp h0 u0 := fun k hk hm => h.sep k hm hk
  refine ⟨h.aw.next q6 (fun k hk => .inr (h.b0 k hk).1), q6.cell nra h.ca0, q6.cell nra h.ca1, q6.cell nma h.cm0, q6.cell nma h.cm1, ⟨l, e, q1, q2⟩, q5,
    ⟨l1, e1, s1.away q6 (n1 _ (List.mem_append_left _ (fp_self _ _))) (fun k hk => n1 _ (List.mem_append_left _ (fp_own hk))), s2.away q6 (n1 _ (List.mem_append_right _ (fp_self _ _))) (fun k hk => n1 _ (List.mem_append_right _ (fp_own hk)))⟩, h.d1, ?_, ?_, h.b1⟩
  · intro k hk hm
    rcases hsp k hk with hh | hh
    · exact h.sep k hh hm
    · have := hl1 k hm; omega
  · intro k hk
    rcases hsp k hk with hh | hh
    · exact h.b0 k hh
    · exact ⟨by omega, by omega, by omega⟩
theorem WSt.second {w wr w' : World} {ra ma g0 h0 g1 h1 : Nat} {v0 u0 v1 u1 v' u' : Value} {lim0 lim1 : Int} {l : List Int} {e : Int} (h : WSt w wr ra ma g0 v0 h0 u0 lim0 g1 v1 h1 u1 lim1) (hb : Both wr w' g1 v1 v' h1 u1 u' lim1 l e) : WSt w w' ra ma g0 v0 h0 u0 lim0 g1 v' h1 u' lim1 := by
  have hsp := both_split hb
  obtain ⟨q1, q2, q3, q4, q5, q6⟩ := hb
  obtain ⟨l1, e1, s1, s2⟩ := h.st0
  have hl1 := pair_lt s1 s2
  have hra : ra < wr.heap.size := block_lt_of_cell h.ca0
  have hma : ma < wr.heap.size := block_lt_of_cell h.cm0
  have nra : ra ∉ fp g1 v1 ++ fp h1 u1 := fun hm => (h.b1 _ hm).2.1 rfl
  have nma : ma ∉ fp g1 v1 ++ fp h1 u1 := fun hm => (h.b1 _ hm).2.2 rfl
  have hsz := h.aw.size
  have n1 : ∀ k ∈ fp g0 v0 ++ fp h0 u0, k ∉ fp g1 v1 ++ fp h1 u1 := fun k hk hm => h.sep k hk hm
  refine ⟨h.aw.next q6 (fun k hk => .inr (h.b1 k hk).1), q6.cell nra h.ca0, q6.cell nra h.ca1, q6.cell nma h.cm0, q6.cell nma h.cm1,
    ⟨l1, e1, s1.away q6 (n1 _ (List.mem_append_left _ (fp_self _ _))) (fun k hk => n1 _ (List.mem_append_left _ (fp_own hk))), s2.away q6 (n1 _ (List.mem_append_right _ (fp_self _ _))) (fun k hk => n1 _ (List.mem_append_right _ (fp_own hk)))⟩, h.d0, ⟨l, e, q1, q2⟩, q5, ?_, h.b0, ?_⟩
  · intro k hk hm
    rcases hsp k hm with hh | hh
    · exact h.sep k hk hh
    · have := hl1 k hk; omega
  · intro k hk
    rcases hsp k hk with hh | hh
    · exact h.b1 k hh
    · exact ⟨by omega, by omega, by omega⟩
theorem both_undrew {w w' : World} {g h : Nat} {v v' u u' : Value} {lim : Int} {l : List Int} {e : Int} (hb : Both w.drew w' g v v' h u u' lim l e) : Both w w' g v v' h u u' lim l e := by
  obtain ⟨q1, q2, q3, q4, q5, q6⟩ := hb
  exact ⟨q1, q2, q3, q4, q5, q6.undrew⟩

set_option maxRecDepth 100000 in
set_option maxHeartbeats 1000000 in
theorem walkl (one two : Int) (sa : Option Addr) (ops : List OpD) (scap : Nat) (w : World) (h1 : I64 one) (h2 : I64 two) (hscap : ops.length ≤ scap) (hsc : Script w sa ops) :
    Calls Try.prog 7 #[.int .i64 one, .int .i64 two, .slice sa ops.length scap] w fun e w' => e = .returned (.bool true) ∧ Below w.heap.size w w' := by
  have hol := hsc.1
  go_enter Try.func7, Try.ntmps7
  go_wp2_with fail
  refine (alive_any _).mono ?_
  rintro E w1 ⟨rfl, aw1⟩
  go_wp2_with fail
  refine (newWriter_any one _ h1.1 h1.2).mono ?_
  rintro E w2 ⟨g0, v0, rfl, W0, hg0, hv0, a2⟩
  go_wp2_with fail
  refine (newWriter_any two _ h2.1 h2.2).mono ?_
  rintro E w3 ⟨g1, v1, rfl, W1, hg1, hv1, a3⟩
  have W0' := W0.away a3 (by simp) (by simp)
  have l0 := W0.lt.1
  have l1 := W1.lt.1
  have z1 := aw1.size
  have z2 := a2.size
  have z3 := a3.size
  obtain ⟨lim0, hlim0⟩ : ∃ l, l = limOf one := ⟨_, rfl⟩
  obtain ⟨lim1, hlim1⟩ : ∃ l, l = limOf two := ⟨_, rfl⟩
  have HL0 : Hid (lim0 = limOf one) := hlim0
  have HL1 : Hid (lim1 = limOf two) := hlim1
  rw [← hlim0] at W0 W0'
  rw [← hlim1] at W1
  clear hlim0 hlim1
  have hA4 : Away [] w3 (w3.alloc (.cells #[.pointer (some ⟨g0, 0, none⟩), .pointer (some ⟨g1, 0, none⟩)] 65)) := (Away.refl [] w3).alloc _
  have c0 : (w3.alloc (.cells #[.pointer (some ⟨g0, 0, none⟩), .pointer (some ⟨g1, 0, none⟩)] 65)).cell? ⟨w3.heap.size, 0, none⟩ = some (.pointer (some ⟨g0, 0, none⟩)) := by rw [World.cell?_alloc_at (hn := rfl)]; rfl
  have c1 : (w3.alloc (.cells #[.pointer (some ⟨g0, 0, none⟩), .pointer (some ⟨g1, 0, none⟩)] 65)).cell? ⟨w3.heap.size, 1, none⟩ = some (.pointer (some ⟨g1, 0, none⟩)) := by rw [World.cell?_alloc_at (hn := rfl)]; rfl
  have W0a := W0'.away hA4 (by simp) (by simp)
  have W1a := W1.away hA4 (by simp) (by simp)
  have aw4 := ((aw1.next a2 (by simp)).next a3 (by simp)).next hA4 (by simp)
  go_wp2_with fail
  generalize hw4 : w3.alloc (.cells #[.pointer (some ⟨g0, 0, none⟩), .pointer (some ⟨g1, 0, none⟩)] 65) = w4 at *
  have z4 : w3.heap.size + 1 = w4.heap.size := by rw [← hw4]; simp
  clear hw4 hA4 a2 a3 aw1 W0 W0' W1
  generalize hra : w3.heap.size = ra at *
  clear hra
  have Z4 : Hid (ra + 1 = w4.heap.size) := z4
  clear z4
  refine (mnewWriter_any one _ h1.1 h1.2).mono ?_
  rintro E w5 ⟨h0, u0, rfl, M0, hh0, hu0, a5⟩
  rw [← HL0.out] at M0
  go_wp2_with fail
  refine (mnewWriter_any two _ h2.1 h2.2).mono ?_
  rintro E w6 ⟨hh, u1, rfl, M1, hh1, hu1, a6⟩
  rw [← HL1.out] at M1
  have M0' := M0.away a6 (by simp) (by simp)
  have m0 := M0.lt.1
  have m1 := M1.lt.1
  have z5 := a5.size
  have z6 := a6.size
  have hA7 : Away [] w6 (w6.alloc (.cells #[.pointer (some ⟨h0, 0, none⟩), .pointer (some ⟨hh, 0, none⟩)] 68)) := (Away.refl [] w6).alloc _
  have k0 : (w6.alloc (.cells #[.pointer (some ⟨h0, 0, none⟩), .pointer (some ⟨hh, 0, none⟩)] 68)).cell? ⟨w6.heap.size, 0, none⟩ = some (.pointer (some ⟨h0, 0, none⟩)) := by rw [World.cell?_alloc_at (hn := rfl)]; rfl
  have k1 : (w6.alloc (.cells #[.pointer (some ⟨h0, 0, none⟩), .pointer (some ⟨hh, 0, none⟩)] 68)).cell? ⟨w6.heap.size, 1, none⟩ = some (.pointer (some ⟨hh, 0, none⟩)) := by rw [World.cell?_alloc_at (hn := rfl)]; rfl
  have A7 : Away [] w4 (w6.alloc (.cells #[.pointer (some ⟨h0, 0, none⟩), .pointer (some ⟨hh, 0, none⟩)] 68)) := (a5.next a6 (by simp)).next hA7 (by simp)
  have hst : WSt w (w6.alloc (.cells #[.pointer (some ⟨h0, 0, none⟩), .pointer (some ⟨hh, 0, none⟩)] 68)) ra w6.heap.size g0 v0 h0 u0 lim0 g1 v1 hh u1 lim1 := by
    have z4 := Z4.out
    have f0 : ∀ k ∈ fp g0 v0, k = g0 := by intro k hk; simpa [fp, hv0] using hk
    have f1 : ∀ k ∈ fp g1 v1, k = g1 := by intro k hk; simpa [fp, hv1] using hk
    have f2 : ∀ k ∈ fp h0 u0, k = h0 := by intro k hk; simpa [fp, hu0] using hk
    have f3 : ∀ k ∈ fp hh u1, k = hh := by intro k hk; simpa [fp, hu1] using hk
    have e0 : ∀ k ∈ fp g0 v0 ++ fp h0 u0, k = g0 ∨ k = h0 := fun k hk => (List.mem_append.mp hk).imp (f0 k) (f2 k)
    have e1 : ∀ k ∈ fp g1 v1 ++ fp hh u1, k = g1 ∨ k = hh := fun k hk => (List.mem_append.mp hk).imp (f1 k) (f3 k)
    refine ⟨aw4.next A7 (by simp), A7.cell (by simp) c0, A7.cell (by simp) c1, k0, k1, ⟨[], 0, W0a.away A7 (by simp) (by simp), M0'.away hA7 (by simp) (by simp)⟩, ?_, ⟨[], 0, W1a.away A7 (by simp) (by simp), M1.away hA7 (by simp) (by simp)⟩, ?_, ?_, ?_, ?_⟩
    · intro k hk hm; have := f0 k hk; have := f2 k hm; omega
    · intro k hk hm; have := f1 k hk; have := f3 k hm; omega
    · intro k hk hm; have := e0 k hk; have := e1 k hm; omega
    · intro k hk; have := e0 k hk; exact ⟨by omega, by omega, by omega⟩
    · intro k hk; have := e1 k hk; exact ⟨by omega, by omega, by omega⟩
  have x0 := hst.ca0
  have x1 := hst.ca1
  clear k0 k1 A7 hA7 M0 M0' M1 W0a W1a aw4 a5 a6
  go_wp2_with fail
  generalize hw7 : w6.alloc (.cells #[.pointer (some ⟨h0, 0, none⟩), .pointer (some ⟨hh, 0, none⟩)] 68) = w7 at *
  clear hw7
  generalize hma : w6.heap.size = ma at *
  clear hma
  go_loopw [9] (fun i wr => ∃ k : Nat, k ≤ ops.length ∧ i = .int .i64 k ∧ ∃ v0 u0 v1 u1, WSt w wr ra ma g0 v0 h0 u0 lim0 g1 v1 hh u1 lim1) (fun i _ => ops.length - (intOf i).toNat)
  case atStart => exact ⟨0, by omega, rfl, v0, u0, v1, u1, hst⟩
  case round =>
    obtain ⟨k, hk, rfl, v0, u0, v1, u1, hp⟩ := hrel
    by_cases hlt : k < ops.length
    · rcases hsc.2.2 with h0' | ⟨sb, off, rfl, hcell⟩
      · rw [h0'] at hlt; simp at hlt
      obtain ⟨o, ho⟩ : ∃ o, ops[k]? = some o := ⟨_, List.getElem?_eq_getElem hlt⟩
      obtain ⟨c0, c1, c2, c3, c4⟩ := hcell k o ho
      have e0 := hp.aw.cell (by simp) c0
      have e1 := hp.aw.cell (by simp) c1
      have e2 := hp.aw.cell (by simp) c2
      have e3 := hp.aw.cell (by simp) c3
      have e4 := hp.aw.cell (by simp) c4
      have x0 := hp.ca0
      have x1 := hp.ca1
      have y0 := hp.cm0
      have y1 := hp.cm1
      have hk0 : (0 : Int) ≤ (k : Int) := by omega
      have hk1 : (k : Int) < (ops.length : Int) := by omega
      have hok0 := hsc.2.1 o (List.mem_of_getElem? ho)
      have hok := hok0.away (S := []) hp.aw
      have HCC : Hid (Cells5 w sb (off + k * 5) o) := ⟨c0, c1, c2, c3, c4⟩
      clear c0 c1 c2 c3 c4 hcell ho
      rcases and_one o.who with hand | hand
      · obtain ⟨l, e, st1, st2⟩ := hp.st0
        have hBk : ∀ k ∈ fp g0 v0 ++ fp h0 u0, w.heap.size ≤ k := fun k hk => (hp.b0 k hk).1
        go_wp2_with fail
        go_region_held3 (fun w' => w'.cell? ⟨ra, 0, none⟩ = some (.pointer (some ⟨g0, 0, none⟩)) ∧ w'.cell? ⟨ma, 0, none⟩ = some (.pointer (some ⟨h0, 0, none⟩)) ∧ w'.cell? ⟨sb, off + k * 5, none⟩ = some (.int .i64 o.kd) ∧ w'.cell? ⟨sb, off + k * 5 + 1, none⟩ = some (.int .i64 o.who) ∧ w'.cell? ⟨sb, off + k * 5 + 2, none⟩ = some (.int .i64 o.n) ∧ w'.cell? ⟨sb, off + k * 5 + 3, none⟩ = some (.int .u32 o.v) ∧ w'.cell? ⟨sb, off + k * 5 + 4, none⟩ = some (.slice o.ba o.b.length o.bc)) (go_keep)
          (first
            | (go_at_call 34; refine (writes_any w.heap.size _ g0 v0 h0 u0 lim0 l e o (by exact st1) (by exact st2) hp.d0 (by exact hok) hok0.old hBk).mono ?_; intro E w20 hq; have hE := hq.1; subst hE; obtain ⟨_, v', u', l', e', hb'⟩ := hq; have hp2 := hp.first (both_undrew hb'); have z0 := hp2.ca0; have z1 := hp2.cm0; have z2 := hp2.aw.cell (by simp) HCC.out.1; have z3 := hp2.aw.cell (by simp) HCC.out.2.1; have z4 := hp2.aw.cell (by simp) HCC.out.2.2.1; have z5 := hp2.aw.cell (by simp) HCC.out.2.2.2.1; have z6 := hp2.aw.cell (by simp) HCC.out.2.2.2.2))
        go_wp2_with fail
        go_roundw
        case rel => exact ⟨k + 1, by omega, by go_num, v', u', v1, u1, hp2⟩
        case measure => simp [intOf]; omega
      · obtain ⟨l, e, st1, st2⟩ := hp.st1
        have hBk : ∀ k ∈ fp g1 v1 ++ fp hh u1, w.heap.size ≤ k := fun k hk => (hp.b1 k hk).1
        go_wp2_with fail
        go_region_held3 (fun w' => w'.cell? ⟨ra, 1, none⟩ = some (.pointer (some ⟨g1, 0, none⟩)) ∧ w'.cell? ⟨ma, 1, none⟩ = some (.pointer (some ⟨hh, 0, none⟩)) ∧ w'.cell? ⟨sb, off + k * 5, none⟩ = some (.int .i64 o.kd) ∧ w'.cell? ⟨sb, off + k * 5 + 1, none⟩ = some (.int .i64 o.who) ∧ w'.cell? ⟨sb, off + k * 5 + 2, none⟩ = some (.int .i64 o.n) ∧ w'.cell? ⟨sb, off + k * 5 + 3, none⟩ = some (.int .u32 o.v) ∧ w'.cell? ⟨sb, off + k * 5 + 4, none⟩ = some (.slice o.ba o.b.length o.bc)) (go_keep)
          (first
            | (go_at_call 34; refine (writes_any w.heap.size _ g1 v1 hh u1 lim1 l e o (by exact st1) (by exact st2) hp.d1 (by exact hok) hok0.old hBk).mono ?_; intro E w20 hq; have hE := hq.1; subst hE; obtain ⟨_, v', u', l', e', hb'⟩ := hq; have hp2 := hp.second (both_undrew hb'); have z0 := hp2.ca1; have z1 := hp2.cm1; have z2 := hp2.aw.cell (by simp) HCC.out.1; have z3 := hp2.aw.cell (by simp) HCC.out.2.1; have z4 := hp2.aw.cell (by simp) HCC.out.2.2.1; have z5 := hp2.aw.cell (by simp) HCC.out.2.2.2.1; have z6 := hp2.aw.cell (by simp) HCC.out.2.2.2.2))
        go_wp2_with fail
        go_roundw
        case rel => exact ⟨k + 1, by omega, by go_num, v0, u0, v', u', hp2⟩
        case measure => simp [intOf]; omega
    · skip
      obtain ⟨l, e, st1, st2⟩ := hp.st0
      have x0 := hp.ca0
      have x1 := hp.ca1
      have y0 := hp.cm0
      have y1 := hp.cm1
      have hBk : ∀ k ∈ fp g0 v0 ++ fp h0 u0, w.heap.size ≤ k := fun k hk => (hp.b0 k hk).1
      have hd := hp.d0
      go_wp2_with fail
      refine (writes_any w.heap.size _ g0 v0 h0 u0 lim0 l e ⟨5, 0, 0, 0, none, 0, []⟩ (by exact st1) (by exact st2) hd ⟨⟨by decide, by decide⟩, ⟨by decide, by decide⟩, ⟨by decide, by decide⟩, ⟨by decide, by decide⟩, Row.nil _ _, fun _ => rfl, Nat.le_refl _, Nat.zero_le _⟩ (.inl rfl) hBk).mono ?_
      intro E w20 hq
      have hE := hq.1
      subst hE
      obtain ⟨_, v', u', l', e', hb'⟩ := hq
      have hp2 := hp.first hb'
      clear hp st1 st2 hb' x0 x1 y0 y1 hBk hd
      have hp := hp2
      clear hp2
      obtain ⟨l, e, st1, st2⟩ := hp.st1
      have x0 := hp.ca0
      have x1 := hp.ca1
      have y0 := hp.cm0
      have y1 := hp.cm1
      have hBk : ∀ k ∈ fp g1 v1 ++ fp hh u1, w.heap.size ≤ k := fun k hk => (hp.b1 k hk).1
      have hd := hp.d1
      go_wp2_with fail
      refine (writes_any w.heap.size _ g1 v1 hh u1 lim1 l e ⟨5, 0, 0, 0, none, 0, []⟩ (by exact st1) (by exact st2) hd ⟨⟨by decide, by decide⟩, ⟨by decide, by decide⟩, ⟨by decide, by decide⟩, ⟨by decide, by decide⟩, Row.nil _ _, fun _ => rfl, Nat.le_refl _, Nat.zero_le _⟩ (.inl rfl) hBk).mono ?_
      intro E w20 hq
      have hE := hq.1
      subst hE
      obtain ⟨_, v', u', l', e', hb'⟩ := hq
      have hp2 := hp.second hb'
      clear hp st1 st2 hb' x0 x1 y0 y1 hBk hd
      have hp := hp2
      clear hp2
      go_wp2_with fail
      go_ret
      exact ⟨rfl, hp.aw.to_below⟩
theorem walk (one two : Int) (sa : Option Addr) (ops : List OpD) (scap : Nat) (w : World) (h1 : (Lit.int .i64 one).wf = true) (h2 : (Lit.int .i64 two).wf = true) (h3 : ops.length ≤ scap) (h4 : Script w sa ops) :
    Calls Try.prog 7 #[.int .i64 one, .int .i64 two, .slice sa ops.length scap] w fun e w' => e = .returned (.bool true) ∧ Below w.heap.size w w' :=
  walkl one two sa ops scap w (bounds_i64 h1) (bounds_i64 h2) h3 h4
set_option maxRecDepth 100000 in
theorem lifted (os : Os) (started : os.Started) (H : Type) (enc : TypeId × Value → H) :
    ReturnsInHanded {} Try.checked os 7 .any (Rows.wireWritesSpec.pre6 enc Try.prog Try.f7 Rows.wireWritesRow.domain false) (Rows.wireWritesSpec.post enc Try.prog Try.f7 false true false false) := by
  refine returnsInHanded_of_change_sized (C := Try.checked) ownKn started (by kernel_rfl) Try.func7
    (ChangeSpec.witness6 (enc := enc) (C := Try.checked) false ⟨#[], #[.int .i64 0, .int .i64 0, .slice none 0 0], []⟩ 8 (by kernel_rfl) (by kernel_rfl) (by kernel_rfl) (by kernel_rfl)) ?_
  intro W base args ds gs before hval0 hW _ hsz0 _
  have hsz : (DataW.weightsEach Try.prog (Try.f7.params.toList ++ Rows.wireWritesSpec.plain.varTypes Try.prog) (ds ++ gs)).all (· ≤ reachBytes) = true := hsz0
  clear hsz0
  have hval : ∀ (j : Nat) t v, Try.f7.params[j]? = some t → args[j]? = some v → Value.okWide Try.prog W .any base t v := hval0
  have hW' := hW
  obtain ⟨p, q, hA0, hV, rfl, hfz, hnd⟩ := hW
  have hA : DataW.TrodAll enc Try.prog W 0 (fun _ => true) true Try.f7.params.toList args.toList ds p := hA0
  rw [Try.params7] at hA hval hsz
  obtain ⟨v0, vs0, d0, ds0, p0, q0, hargs, rfl, rfl, h0, r0⟩ := trodAll_cons hA
  obtain ⟨v1, vs1, d1, ds1, p1, q1, rfl, rfl, rfl, h1, r1⟩ := trodAll_cons r0
  obtain ⟨v2, vs2, d2, ds2, p2, q2, rfl, rfl, rfl, h2, r2⟩ := trodAll_cons r1
  obtain ⟨rfl, rfl, rfl⟩ := trodAll_nil r2
  obtain rfl : args = #[v0, v1, v2] := by cases args; simp_all
  obtain ⟨rfl, rfl⟩ := trodVars_none hV
  obtain ⟨a0, rfl, rfl, rfl, w0⟩ := open_int Try.underlying3 (hval 0 3 v0 rfl rfl) h0
  obtain ⟨a1, rfl, rfl, rfl, w1⟩ := open_int Try.underlying3 (hval 1 3 v1 rfl rfl) h1
  obtain ⟨a2, len2, cap2, rfl⟩ := okWide_slice Try.underlying52 (hval 2 52 v2 rfl rfl)
  have k2 := h2
  have lt2 : ∀ x ∈ p2, x.block < W.heap.size := by obtain ⟨m, hm⟩ := k2; exact DataW.trod_lt m _ _ _ hm
  obtain ⟨ops2, hol2, w2, hsc2, hbk2⟩ : ∃ ops : List OpD, ops.length = len2 ∧ ops.length ≤ cap2 ∧ Script W a2 ops ∧ (ops.map (fun o => o.b.length + 4)).sum ≤ Rows.uptoBulk d2 := by
    obtain ⟨fuel, hf⟩ := h2
    obtain ⟨ops, e1, e2, e3, e4⟩ := open_script (enc := enc) (fuel := fuel) (a := a2) (len := len2) (cap := cap2) (by simpa [Value.cells] using hf) (fun m hm => by
      have := List.all_eq_true.1 hsz m (DataW.weights_mem_each (j := 2) (t := 52) rfl rfl m hm)
      simpa using this)
    exact ⟨ops, e1, by omega, e3, e4⟩
  subst hol2
  clear hA0 hval0
  refine (walk a0 a1 a2 ops2 cap2 W w0 w1 w2 hsc2).mono fun e W' ⟨he, bel⟩ => ?_
  subst he
  exact ⟨_, rfl, _, _, _, [], _, [], hW', trodAll_mk1 (shut_bool Try.underlying4 _), (trodAll_cons_mk (shut_int Try.underlying3 w0) (trodAll_cons_mk (shut_int Try.underlying3 w1) (trodAll_cons_mk (Below.trod laidOut (by kernel_rfl) (of_decide_eq_true (by kernel_rfl)) k2 bel lt2) trodAll_mk0))), rfl, bel.frame _, fun h => by cases h⟩

theorem over : Rows.wireWritesRow.holds Try.pinned (OpenSpec.ofChange Rows.wireWritesSpec) :=
  OpenClaim.holds_of_wide 7 Try.f7 rfl rfl rfl rfl rfl rfl rfl ⟨rfl, rfl, rfl, rfl, rfl⟩ rfl rfl rfl rfl rfl (by kernel_rfl) Try.func7 (by kernel_rfl)
    (of_decide_eq_true (by kernel_rfl)) (by unfold Func.isWrapper; first | (rw [if_pos (by decide +kernel)]; kernel_rfl) | (rw [if_neg (by decide +kernel)]; exact ⟨rfl, rfl⟩))
    (fun os started H enc _ => lifted os started H enc)

end Go.Proofs.Ytaiomhhndckccaa.wireWrites
namespace Go.Proofs.Ytaiomhhndckccaa
theorem wireWrites_holds : Rows.WireWritesSaid := wireWrites.over
#print axioms wireWrites_holds
end Go.Proofs.Ytaiomhhndckccaa
