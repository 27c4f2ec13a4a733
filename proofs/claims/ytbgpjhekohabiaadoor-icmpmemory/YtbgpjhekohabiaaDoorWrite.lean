/-
  The contracts of the Writer of wire.
-/
import Derived.Test.YtbgpjhekohabiaaDoorRead
namespace Go.Proofs.YtbgpjhekohabiaaDoor
open Go.ChangeShapes Go.WideShapes Go.ChangeAt Go.RowKit Num
set_option linter.unusedVariables false


/-- A writer at block g, its bytes in v: the limit, what was written, the error. -/
def Wr (w : World) (g : Nat) (v : Value) (lim : Int) (l : List Int) (e : Int) : Prop :=
  w.heap[g]? = some (.cells #[.int .i64 lim, v, .int .i64 e] 103 (0, 0)) ∧ Owns w v l ∧ (∀ k, v.ownBlock = some k → k ≠ g) ∧ Bytes l ∧ (l.length : Int) ≤ lim ∧ lim ≤ 65575
theorem Wr.away {S : List Nat} {w w' : World} {g : Nat} {v : Value} {lim : Int} {l : List Int} {e : Int} (h : Wr w g v lim l e) (hw : Away S w w') (hg : g ∉ S) (hv : ∀ k, v.ownBlock = some k → k ∉ S) : Wr w' g v lim l e := by
  obtain ⟨h1, h2, h3, h4, h5, h6⟩ := h
  exact ⟨hw.keep hg h1, h2.away hw hv, h3, h4, h5, h6⟩
theorem Wr.lt {w : World} {g : Nat} {v : Value} {lim : Int} {l : List Int} {e : Int} (h : Wr w g v lim l e) : g < w.heap.size ∧ ∀ k, v.ownBlock = some k → k < w.heap.size := ⟨lt_of_block h.1, h.2.1.lt⟩
theorem Wr.drewN {w : World} {g : Nat} {v : Value} {lim : Int} {l : List Int} {e : Int} (h : Wr w g v lim l e) (n : Nat) : Wr (w.drewN n) g v lim l e := h
theorem Wr.len {w : World} {g : Nat} {v : Value} {lim : Int} {l : List Int} {e : Int} (h : Wr w g v lim l e) : l.length ≤ 65575 := by have := h.2.2.2.2; omega
theorem Wr.slice {w : World} {g : Nat} {v : Value} {lim : Int} {l : List Int} {e : Int} (h : Wr w g v lim l e) : ∃ a cap, v = .slice a l.length cap ∧ l.length ≤ cap ∧ (a = none → cap = 0) ∧ Row w a l ∧ ∀ x, a = some x → x.spot = none ∧ x.off = 0 := by
  obtain ⟨a, cap, h1, h2, h3, h4, h5, h6⟩ := h.2.1.row (by have := h.len; omega) h.2.2.2.1
  exact ⟨a, cap, h1, h2, h3, h4, h6⟩

def wrAll (l : List Int) (e lim : Int) (m : List Int) : List Int := if e = 0 ∧ (l.length : Int) + m.length ≤ lim then l ++ m else l
def wrErr (l : List Int) (e lim : Int) (n : Int) : Int := if e = 0 then if (l.length : Int) + n ≤ lim then 0 else 3 else e

def fp (g : Nat) (v : Value) : List Nat := g :: v.ownBlock.toList
theorem fp_own {g k : Nat} {v : Value} (h : v.ownBlock = some k) : k ∈ fp g v := by simp [fp, h]
theorem fp_self (g : Nat) (v : Value) : g ∈ fp g v := by simp [fp]

def Roomed (w : World) (g : Nat) (v : Value) (lim : Int) (l : List Int) (e : Int) (b : Bool) (E : Ending) (w' : World) : Prop := E = .returned (.bool b) ∧ Wr w' g v lim l e ∧ Away [g] w w'
set_option maxHeartbeats 400000 in
theorem room_yes (w : World) (g : Nat) (v : Value) (lim : Int) (l : List Int) (n : Int) (hn : 0 ≤ n) (hn' : n ≤ 140737488355328) (h : Wr w g v lim l 0) (hfit : (l.length : Int) + n ≤ lim) :
    Calls Tryd.prog 63 #[.pointer (some ⟨g, 0, none⟩), .int .i64 n] w fun E w' => E = .returned (.bool true) ∧ ∃ n, w' = w.drewN n := by
  obtain ⟨a, cap, hv, hcap, hnone, hrow, _⟩ := h.slice
  obtain ⟨hb, hown, hne, hby, hll, hlim⟩ := h
  have c0 : w.cell? ⟨g, 0, none⟩ = some (.int .i64 lim) := by rw [cell_of_block hb]; rfl
  have c1 : w.cell? ⟨g, 1, none⟩ = some (.slice a l.length cap) := by rw [cell_of_block hb, ← hv]; rfl
  have c2 : w.cell? ⟨g, 2, none⟩ = some (.int .i64 0) := by rw [cell_of_block hb]; rfl
  clear hb hv hrow hown hne
  go_enter Tryd.func63, Tryd.ntmps63
  go_wp2_with fail
  go_quiet (fail)
  go_wp2_with fail
  go_ret
  exact ⟨rfl, _, rfl⟩
set_option maxHeartbeats 400000 in
theorem room_no (w : World) (g : Nat) (v : Value) (lim : Int) (l : List Int) (e n : Int) (hn : 0 ≤ n) (hn' : n ≤ 140737488355328) (h : Wr w g v lim l e) (hfit : ¬ (e = 0 ∧ (l.length : Int) + n ≤ lim)) :
    Calls Tryd.prog 63 #[.pointer (some ⟨g, 0, none⟩), .int .i64 n] w fun E w' => Roomed w g v lim l (wrErr l e lim n) false E w' := by
  obtain ⟨a, cap, hv, hcap, hnone, hrow, _⟩ := h.slice
  have h0 := h
  obtain ⟨hb, hown, hne, hby, hll, hlim⟩ := h
  have c0 : w.cell? ⟨g, 0, none⟩ = some (.int .i64 lim) := by rw [cell_of_block hb]; rfl
  have c1 : w.cell? ⟨g, 1, none⟩ = some (.slice a l.length cap) := by rw [cell_of_block hb, ← hv]; rfl
  have c2 : w.cell? ⟨g, 2, none⟩ = some (.int .i64 e) := by rw [cell_of_block hb]; rfl
  have f2 := free_of_block hb 2
  have HB : Hid (w.heap[g]? = some (.cells #[.int .i64 lim, v, .int .i64 e] 103 (0, 0))) := hb
  have HV : Hid (v = .slice a l.length cap) := hv
  clear hb hv hrow
  by_cases he : e = 0
  · subst he
    have e1 : wrErr l 0 lim n = 3 := by unfold wrErr; rw [if_pos rfl, if_neg (by omega)]
    rw [e1]
    clear e1
    have hgt : lim < (l.length : Int) + n := by omega
    go_enter Tryd.func63, Tryd.ntmps63
    go_wp2_with fail
    go_quiet (fail)
    go_wp2_with fail
    go_ret
    refine ⟨rfl, ?_, ?_⟩
    · refine ⟨?_, ?_, hne, hby, hll, hlim⟩
      · rw [block_set (w := w.drewN _) HB.out]; rfl
      · exact hown.away (S := [g]) (((Away.refl [g] w).drewN _).setCell (.inl (by simp)) _) (fun k hk => by simpa using hne k hk)
    · exact ((Away.refl [g] w).drewN _).setCell (.inl (by simp)) _
  · have e1 : wrErr l e lim n = e := by unfold wrErr; rw [if_neg he]
    rw [e1]
    clear e1
    have b1 : (e == 0) = false := by simp [he]
    have b2 : (e != 0) = true := by simp [he]
    go_enter Tryd.func63, Tryd.ntmps63
    go_wp2_with fail
    go_ret
    exact ⟨rfl, h0, Away.refl _ _⟩


/-- What a write did. -/
def Wrote (w : World) (g : Nat) (v : Value) (lim : Int) (l : List Int) (e : Int) (E : Ending) (w' : World) : Prop :=
  E = .returned (.tuple #[]) ∧ ∃ v', Wr w' g v' lim l e ∧ Moved w v v' ∧ Away (fp g v) w w'
theorem Roomed.wrote {w w' : World} {g : Nat} {v : Value} {lim : Int} {l : List Int} {e : Int} (h : Wr w' g v lim l e) (ha : Away [g] w w') : Wrote w g v lim l e (.returned (.tuple #[])) w' :=
  ⟨rfl, v, h, Moved.refl _ _, ha.mono (by simp [fp])⟩
/-- The end of a write that fits: behind the append the slice is stored. -/
theorem wrote_fin {w w1 w2 : World} {g : Nat} {v v' : Value} {lim : Int} {l m : List Int} (h : Wr w g v lim l 0) (h1 : Away [] w w1) (hown : Owns w2 v' (l ++ m)) (hg : w1.grownBy w2 v.ownBlock) (hm : Moved w1 v v')
    (hb : Bytes m) (hfit : (l.length : Int) + m.length ≤ lim) : Wrote w g v lim (l ++ m) 0 (.returned (.tuple #[])) (w2.setCell ⟨g, 1, none⟩ v') := by
  obtain ⟨hblk, hown0, hne, hby, hll, hlim⟩ := h
  have hglt := lt_of_block hblk
  have hs1 := h1.size
  have haw : Away (fp g v) w w2 := (h1.mono (T := fp g v) (by simp)).grown hg (fun k hk => .inl (fp_own hk))
  have hb1 : w1.heap[g]? = some (.cells #[.int .i64 lim, v, .int .i64 0] 103 (0, 0)) := h1.keep (by simp) hblk
  have hb2 : w2.heap[g]? = some (.cells #[.int .i64 lim, v, .int .i64 0] 103 (0, 0)) := by
    rw [hg.block g (lt_of_block hb1) (fun e => hne g e.symm rfl)]; exact hb1
  have hne' : ∀ k, v'.ownBlock = some k → k ≠ g := by
    intro k hk
    rcases hm k hk with h | h
    · exact hne k h
    · omega
  refine ⟨rfl, v', ⟨?_, ?_, hne', hby.app hb, by simp; omega, hlim⟩, fun k hk => ?_, haw.setCell (.inl (fp_self _ _)) _⟩
  · rw [block_set hb2]; rfl
  · exact hown.away (S := [g]) ((Away.refl [g] w2).setCell (.inl (by simp)) _) (fun k hk => by simpa using hne' k hk)
  · rcases hm k hk with h | h
    · exact .inl h
    · right; omega
/-- The slice's cell behind the append. -/
theorem out_cell {w w1 w2 : World} {g : Nat} {v : Value} {lim : Int} {l : List Int} {e : Int} (h : Wr w g v lim l e) (h1 : Away [] w w1) (hg : w1.grownBy w2 v.ownBlock) : w2.cell? ⟨g, 1, none⟩ = some v ∧ w2.frozen? ⟨g, 1, none⟩ = false := by
  have hb1 := h1.keep (by simp) h.1
  have hb2 : w2.heap[g]? = some (.cells #[.int .i64 lim, v, .int .i64 e] 103 (0, 0)) := by
    rw [hg.block g (lt_of_block hb1) (fun e => h.2.2.1 g e.symm rfl)]; exact hb1
  exact ⟨by rw [cell_of_block hb2]; rfl, free_of_block hb2 1⟩

theorem Owns.shape {w : World} {v : Value} {l : List Int} (h : Owns w v l) : ∃ a n c, v = .slice a n c := by
  rcases h.2 with ⟨rfl, _⟩ | ⟨g, cap, cur, rfl, _⟩
  · exact ⟨_, _, _, rfl⟩
  · exact ⟨_, _, _, rfl⟩
set_option maxHeartbeats 400000 in
theorem w8_any (w : World) (g : Nat) (v : Value) (lim : Int) (l : List Int) (e x : Int) (h : Wr w g v lim l e) (hx : 0 ≤ x) (hx' : x ≤ 255) :
    Calls Tryd.prog 31 #[.pointer (some ⟨g, 0, none⟩), .int .u8 x] w fun E w' => Wrote w g v lim (wrAll l e lim [x]) (wrErr l e lim 1) E w' := by
  by_cases hfit : e = 0 ∧ (l.length : Int) + 1 ≤ lim
  · obtain ⟨rfl, hfit⟩ := hfit
    have e1 : wrAll l 0 lim [x] = l ++ [x] := by unfold wrAll; rw [if_pos ⟨rfl, by simpa using hfit⟩]
    have e2 : wrErr l 0 lim 1 = 0 := by unfold wrErr; rw [if_pos rfl, if_pos hfit]
    rw [e1, e2]
    clear e1 e2
    have c1 : w.cell? ⟨g, 1, none⟩ = some v := by rw [cell_of_block h.1]; rfl
    have hlen := h.len
    have hown := h.2.1
    go_enter Tryd.func31, Tryd.ntmps31
    go_wp2_with fail
    refine (room_yes w g v lim l 1 (by omega) (by omega) h hfit).mono ?_
    rintro E w' ⟨rfl, n, rfl⟩
    go_wp2_with (at_builtin; refine wpList_app rfl _ _ rfl _ l [x] rfl ((hown.away (S := []) ((Away.refl [] w).drewN n |>.alloc _) (by simp))) ⟨w.heap.size, 0, none⟩ 1 1 rfl rfl (lit_cells _ [x] _ rfl) (by omega) ?_)
    intro v' w2 hown2 hgr hblk
    obtain ⟨d1, d2⟩ := out_cell h (((Away.refl [] w).drewN n).alloc _) hgr
    obtain ⟨a', n', cap', rfl⟩ := hown2.shape
    go_wp2_with fail
    go_end0
    exact wrote_fin h (((Away.refl [] w).drewN n).alloc _) hown2 hgr hblk (Bytes.nil.cons hx hx') (by simpa using hfit)
  · have e1 : wrAll l e lim [x] = l := by unfold wrAll; rw [if_neg (by simpa using hfit)]
    rw [e1]
    have KEY := room_no w g v lim l e 1 (by omega) (by omega) h hfit
    generalize wrErr l e lim 1 = e' at *
    clear e1
    go_enter Tryd.func31, Tryd.ntmps31
    go_wp2_with fail
    refine KEY.mono ?_
    rintro E w' ⟨rfl, hw, haw⟩
    clear KEY
    go_wp2_with fail
    go_end0
    exact Roomed.wrote hw haw
set_option maxHeartbeats 400000 in
theorem w16_any (w : World) (g : Nat) (v : Value) (lim : Int) (l : List Int) (e x : Int) (h : Wr w g v lim l e) (hx : 0 ≤ x) (hx' : x ≤ 65535) :
    Calls Tryd.prog 32 #[.pointer (some ⟨g, 0, none⟩), .int .u16 x] w fun E w' => Wrote w g v lim (wrAll l e lim [x / 256, x % 256]) (wrErr l e lim 2) E w' := by
  by_cases hfit : e = 0 ∧ (l.length : Int) + 2 ≤ lim
  · obtain ⟨rfl, hfit⟩ := hfit
    have e1 : wrAll l 0 lim [x / 256, x % 256] = l ++ [x / 256, x % 256] := by unfold wrAll; rw [if_pos ⟨rfl, by simpa using hfit⟩]
    have e2 : wrErr l 0 lim 2 = 0 := by unfold wrErr; rw [if_pos rfl, if_pos hfit]
    rw [e1, e2]
    clear e1 e2
    have c1 : w.cell? ⟨g, 1, none⟩ = some v := by rw [cell_of_block h.1]; rfl
    have hlen := h.len
    have hown := h.2.1
    go_enter Tryd.func32, Tryd.ntmps32
    go_wp2_with fail
    refine (room_yes w g v lim l 2 (by omega) (by omega) h hfit).mono ?_
    rintro E w' ⟨rfl, n, rfl⟩
    go_wp2_with (at_builtin; refine wpList_app rfl _ _ rfl _ l [x / 256, x % 256] rfl ((hown.away (S := []) ((Away.refl [] w).drewN n |>.alloc _) (by simp))) ⟨w.heap.size, 0, none⟩ 2 2 rfl rfl (lit_cells _ [x / 256, x % 256] _ rfl) (by omega) ?_)
    intro v' w2 hown2 hgr hblk
    obtain ⟨d1, d2⟩ := out_cell h (((Away.refl [] w).drewN n).alloc _) hgr
    obtain ⟨a', n', cap', rfl⟩ := hown2.shape
    go_wp2_with fail
    go_end0
    exact wrote_fin h (((Away.refl [] w).drewN n).alloc _) hown2 hgr hblk ((Bytes.nil.cons (by omega) (by omega)).cons (by omega) (by omega)) (by simpa using hfit)
  · have e1 : wrAll l e lim [x / 256, x % 256] = l := by unfold wrAll; rw [if_neg (by simpa using hfit)]
    rw [e1]
    have KEY := room_no w g v lim l e 2 (by omega) (by omega) h hfit
    generalize wrErr l e lim 2 = e' at *
    clear e1
    go_enter Tryd.func32, Tryd.ntmps32
    go_wp2_with fail
    refine KEY.mono ?_
    rintro E w' ⟨rfl, hw, haw⟩
    clear KEY
    go_wp2_with fail
    go_end0
    exact Roomed.wrote hw haw
set_option maxHeartbeats 400000 in
theorem wbytes_any (w : World) (g : Nat) (v : Value) (lim : Int) (l : List Int) (e : Int) (a : Option Addr) (m : List Int) (n cap : Nat) (h : Wr w g v lim l e) (hn : m.length = n) (ha : a = none → cap = 0) (hr : Row w a m) :
    Calls Tryd.prog 34 #[.pointer (some ⟨g, 0, none⟩), .slice a n cap] w fun E w' => Wrote w g v lim (wrAll l e lim m) (wrErr l e lim m.length) E w' := by
  subst hn
  have hml := hr.1
  by_cases hfit : e = 0 ∧ (l.length : Int) + m.length ≤ lim
  · obtain ⟨rfl, hfit⟩ := hfit
    have e1 : wrAll l 0 lim m = l ++ m := by unfold wrAll; rw [if_pos ⟨rfl, hfit⟩]
    have e2 : wrErr l 0 lim m.length = 0 := by unfold wrErr; rw [if_pos rfl, if_pos hfit]
    rw [e1, e2]
    clear e1 e2
    have c1 : w.cell? ⟨g, 1, none⟩ = some v := by rw [cell_of_block h.1]; rfl
    have hlen := h.len
    have hlim := h.2.2.2.2.2
    have hown := h.2.1
    rcases a with _ | ad
    · have h0 : m = [] := by rcases hr.2.2 with h | ⟨_, _, h, _⟩ <;> simp_all
      subst h0
      obtain rfl := ha rfl
      have f1 := free_of_block h.1 1
      obtain ⟨a', n', cap', rfl⟩ := hown.shape
      go_enter Tryd.func34, Tryd.ntmps34
      go_wp2_with fail
      refine (room_yes w g _ lim l 0 (by omega) (by omega) h (by simpa using hfit)).mono ?_
      rintro E w' ⟨rfl, n, rfl⟩
      go_wp2_with (at_builtin; refine wpList_app_none rfl _ _ rfl _ l rfl (by exact hown) rfl ?_)
      go_wp2_with fail
      go_end0
      rw [List.append_nil]
      have haw : Away [g] w ((w.drewN n).setCell ⟨g, 1, none⟩ (.slice a' n' cap')) := ((Away.refl [g] w).drewN n).setCell (.inl (by simp)) _
      refine Roomed.wrote ⟨?_, hown.away haw (fun k hk => by simpa using h.2.2.1 k hk), h.2.2.1, h.2.2.2.1, h.2.2.2.2.1, h.2.2.2.2.2⟩ haw
      rw [block_set (w := w.drewN n) h.1]; rfl
    · have hsrc : ∀ j u, (m.map (Value.int .u8))[j]? = some u → w.cell? (ad.add j) = some u := hr.src
      have HS : Hid (∀ j u, (m.map (Value.int .u8))[j]? = some u → w.cell? (ad.add j) = some u) := hsrc
      clear hsrc
      have hmb := hr.2.1
      go_enter Tryd.func34, Tryd.ntmps34
      go_wp2_with fail
      refine (room_yes w g v lim l m.length (by omega) (by omega) h hfit).mono ?_
      rintro E w' ⟨rfl, n, rfl⟩
      go_wp2_with (at_builtin; refine wpList_app rfl _ _ rfl _ l m rfl (by exact hown) ad m.length cap rfl rfl (by exact HS.out) (by omega) ?_)
      intro v' w2 hown2 hgr hblk
      obtain ⟨d1, d2⟩ := out_cell h ((Away.refl [] w).drewN n) hgr
      obtain ⟨a', n', cap', rfl⟩ := hown2.shape
      go_wp2_with fail
      go_end0
      exact wrote_fin h ((Away.refl [] w).drewN n) hown2 hgr hblk hmb hfit
  · have e1 : wrAll l e lim m = l := by unfold wrAll; rw [if_neg hfit]
    rw [e1]
    have KEY := room_no w g v lim l e m.length (by omega) (by omega) h hfit
    generalize wrErr l e lim m.length = e' at *
    clear e1
    go_enter Tryd.func34, Tryd.ntmps34
    go_wp2_with fail
    refine KEY.mono ?_
    rintro E w' ⟨rfl, hw, haw⟩
    clear KEY
    go_wp2_with fail
    go_end0
    exact Roomed.wrote hw haw


def putAll (l : List Int) (e at' x : Int) : List Int := if e = 0 ∧ 0 ≤ at' ∧ at' + 2 ≤ l.length then (l.set at'.toNat (x / 256)).set (at'.toNat + 1) (x % 256) else l
def putErr (l : List Int) (e at' : Int) : Int := if e = 0 then if 0 ≤ at' ∧ at' + 2 ≤ l.length then 0 else 1 else e

set_option maxHeartbeats 400000 in
theorem put16_any (w : World) (g : Nat) (v : Value) (lim : Int) (l : List Int) (e p x : Int) (h : Wr w g v lim l e) (hx : 0 ≤ x) (hx' : x ≤ 65535) (hp : -9223372036854775808 ≤ p) (hp' : p ≤ 9223372036854775807) :
    Calls Tryd.prog 36 #[.pointer (some ⟨g, 0, none⟩), .int .i64 p, .int .u16 x] w fun E w' => Wrote w g v lim (putAll l e p x) (putErr l e p) E w' := by
  obtain ⟨a, cap, hv, hcap, hnone, hrow, hat⟩ := h.slice
  subst hv
  have h0 := h
  obtain ⟨hb, hown, hne, hby, hll, hlim⟩ := h
  have c1 : w.cell? ⟨g, 1, none⟩ = some (.slice a l.length cap) := by rw [cell_of_block hb]; rfl
  have c2 : w.cell? ⟨g, 2, none⟩ = some (.int .i64 e) := by rw [cell_of_block hb]; rfl
  have f2 := free_of_block hb 2
  have HB : Hid (w.heap[g]? = some (.cells #[.int .i64 lim, .slice a l.length cap, .int .i64 e] 103 (0, 0))) := hb
  clear hb
  by_cases he : e = 0
  · subst he
    have hlen : l.length ≤ 65575 := by omega
    by_cases hok : 0 ≤ p ∧ p + 2 ≤ l.length
    · obtain ⟨k, rfl⟩ := Int.eq_ofNat_of_zero_le hok.1
      have e1 : putAll l 0 k x = (l.set k (x / 256)).set (k + 1) (x % 256) := by unfold putAll; rw [if_pos ⟨rfl, hok⟩, Int.toNat_natCast]
      have e2 : putErr l 0 k = 0 := by unfold putErr; rw [if_pos rfl, if_pos hok]
      rw [e1, e2]
      clear e1 e2
      have hk : k + 2 ≤ l.length := by omega
      have HROW : Hid (Row w a l) := hrow
      rcases a with _ | ⟨b, off, spot⟩
      · rcases hrow.2.2 with h | ⟨_, _, h, _⟩
        · rw [h] at hk; simp at hk
        · simp at h
      obtain ⟨hs1, hs2⟩ := hat _ rfl
      simp only at hs1 hs2
      subst hs1; subst hs2
      have hbg : b ≠ g := hne b rfl
      obtain ⟨d0, g0⟩ := hown.cells k (by omega)
      obtain ⟨d1, g1⟩ := hown.cells (k + 1) (by omega)
      have HO : Hid (Owns w (.slice (some ⟨b, 0, none⟩) l.length cap) l) := hown
      have hgb : ¬ g = b := fun h => hbg h.symm
      clear hat hrow hok hown
      go_enter Tryd.func36, Tryd.ntmps36
      go_wp2_with fail
      go_end0
      have haw : Away (fp g (.slice (some ⟨b, 0, none⟩) l.length cap)) w ((w.setCell ⟨b, k, none⟩ (.int .u8 (x / 256))).setCell ⟨b, k + 1, none⟩ (.int .u8 (x % 256))) := ((Away.refl _ w).setCell (.inl (by simp [fp, Value.ownBlock])) _).setCell (.inl (by simp [fp, Value.ownBlock])) _
      have hset := (HO.out.set rfl k (x / 256)).set (by simp) (k + 1) (x % 256)
      refine ⟨rfl, _, ⟨?_, hset, hne, (hby.set k (by omega) (by omega)).set (k + 1) (by omega) (by omega), by simpa using hll, hlim⟩, Moved.refl _ _, haw⟩
      rw [block_set_other hgb, block_set_other hgb]
      exact HB.out
    · have e1 : putAll l 0 p x = l := by unfold putAll; rw [if_neg (fun h => hok h.2)]
      have e2 : putErr l 0 p = 1 := by unfold putErr; rw [if_pos rfl, if_neg hok]
      rw [e1, e2]
      clear e1 e2
      by_cases hneg : p < 0
      · clear hok
        go_enter Tryd.func36, Tryd.ntmps36
        go_wp2_with fail
        refine bodyPost_ret (results_none rfl _ _ _) rfl ?_
        have haw : Away [g] w (w.setCell ⟨g, 2, none⟩ (.int .i64 1)) := (Away.refl [g] w).setCell (.inl (by simp)) _
        refine Roomed.wrote ⟨?_, hown.away haw (fun k hk => by simpa using hne k hk), hne, hby, hll, hlim⟩ haw
        rw [block_set HB.out]; rfl
      · have hbig : (l.length : Int) - 2 < p := by omega
        have hneg' : 0 ≤ p := by omega
        clear hok
        go_enter Tryd.func36, Tryd.ntmps36
        go_wp2_with fail
        refine bodyPost_ret (results_none rfl _ _ _) rfl ?_
        have haw : Away [g] w (w.setCell ⟨g, 2, none⟩ (.int .i64 1)) := (Away.refl [g] w).setCell (.inl (by simp)) _
        refine Roomed.wrote ⟨?_, hown.away haw (fun k hk => by simpa using hne k hk), hne, hby, hll, hlim⟩ haw
        rw [block_set HB.out]; rfl
  · have e1 : putAll l e p x = l := by unfold putAll; rw [if_neg (fun h => he h.1)]
    have e2 : putErr l e p = e := by unfold putErr; rw [if_neg he]
    rw [e1, e2]
    clear e1 e2
    have b1 : (e == 0) = false := by simp [he]
    have b2 : (e != 0) = true := by simp [he]
    go_enter Tryd.func36, Tryd.ntmps36
    go_wp2_with fail
    refine bodyPost_ret (results_none rfl _ _ _) rfl ?_
    exact Roomed.wrote h0 (Away.refl _ _)
def wrOut (l : List Int) (e : Int) : List Int := if e = 0 then l else []
/-- What Out did. -/
def Told (w : World) (l : List Int) (e : Int) (E : Ending) (w' : World) : Prop :=
  ∃ v, E = .returned (.tuple #[v, .int .i64 e]) ∧ Owns w' v l ∧ New w.heap.size v ∧ Away [] w w'
set_option maxHeartbeats 400000 in
theorem out_any (w : World) (g : Nat) (v : Value) (lim : Int) (l : List Int) (e : Int) (h : Wr w g v lim l e) :
    Calls Tryd.prog 35 #[.pointer (some ⟨g, 0, none⟩)] w fun E w' => Told w (wrOut l e) e E w' := by
  obtain ⟨a, cap, hv, hcap, hnone, hrow, hat⟩ := h.slice
  have c1 : w.cell? ⟨g, 1, none⟩ = some (.slice a l.length cap) := by rw [cell_of_block h.1, hv]; rfl
  have c2 : w.cell? ⟨g, 2, none⟩ = some (.int .i64 e) := by rw [cell_of_block h.1]; rfl
  clear h hv
  by_cases he : e = 0
  · subst he
    have e1 : wrOut l 0 = l := by unfold wrOut; rw [if_pos rfl]
    rw [e1]
    clear e1
    go_enter Tryd.func35, Tryd.ntmps35
    go_wp2_with fail
    refine (sclone_any a l cap _ hnone (by exact hrow)).mono ?_
    rintro E w2 ⟨v, rfl, hown, hnew, haw2⟩
    go_wp2_with fail
    go_ret2
    exact ⟨v, rfl, hown, hnew, haw2⟩
  · have e1 : wrOut l e = [] := by unfold wrOut; rw [if_neg he]
    rw [e1]
    clear e1
    have b1 : (e == 0) = false := by simp [he]
    have b2 : (e != 0) = true := by simp [he]
    go_enter Tryd.func35, Tryd.ntmps35
    go_wp2_with fail
    go_quiet (fail)
    go_wp2_with fail
    go_ret2
    exact ⟨_, rfl, Owns.nil _, by simp [New, Value.ownBlock], (Away.refl [] w).drewN _⟩
def limOf (n : Int) : Int := if n < 0 then 0 else if n ≤ 65575 then n else 65575
/-- What NewWriter did. -/
def Began (w : World) (lim : Int) (E : Ending) (w' : World) : Prop :=
  ∃ g v, E = .returned (.pointer (some ⟨g, 0, none⟩)) ∧ Wr w' g v lim [] 0 ∧ w.heap.size ≤ g ∧ v.ownBlock = none ∧ Away [] w w'
set_option maxHeartbeats 400000 in
theorem newWriter_any (n : Int) (w : World) (h1 : -9223372036854775808 ≤ n) (h2 : n ≤ 9223372036854775807) :
    Calls Tryd.prog 30 #[.int .i64 n] w fun E w' => Began w (limOf n) E w' := by
  have fin : ∀ lim : Int, 0 ≤ lim → lim ≤ 65575 → Began w lim (.returned (.pointer (some ⟨w.heap.size, 0, none⟩))) (w.alloc (.cells #[.int .i64 lim, .slice none 0 0, .int .i64 0] 103)) := by
    intro lim h0 h1
    exact ⟨w.heap.size, _, rfl, ⟨block_new _ _, Owns.nil _, by simp [Value.ownBlock], Bytes.nil, by simpa using h0, h1⟩, Nat.le_refl _, rfl, (Away.refl [] w).alloc _⟩
  have FIN : Hid (∀ lim : Int, 0 ≤ lim → lim ≤ 65575 → Began w lim (.returned (.pointer (some ⟨w.heap.size, 0, none⟩))) (w.alloc (.cells #[.int .i64 lim, .slice none 0 0, .int .i64 0] 103))) := fin
  clear fin
  by_cases hneg : n < 0
  · rw [show limOf n = 0 from by unfold limOf; rw [if_pos hneg]]
    go_enter Tryd.func30, Tryd.ntmps30
    go_wp2
    go_ret
    exact FIN.out 0 (by omega) (by omega)
  · by_cases hbig : n ≤ 65575
    · rw [show limOf n = n from by unfold limOf; rw [if_neg hneg, if_pos hbig]]
      go_enter Tryd.func30, Tryd.ntmps30
      go_wp2
      go_ret
      exact FIN.out n (by omega) (by omega)
    · rw [show limOf n = 65575 from by unfold limOf; rw [if_neg hneg, if_neg hbig]]
      go_enter Tryd.func30, Tryd.ntmps30
      go_wp2
      go_ret
      exact FIN.out 65575 (by omega) (by omega)

set_option maxHeartbeats 400000 in
theorem w32_any (w : World) (g : Nat) (v : Value) (lim : Int) (l : List Int) (e x : Int) (h : Wr w g v lim l e) (hx : 0 ≤ x) (hx' : x ≤ 4294967295) :
    Calls Tryd.prog 33 #[.pointer (some ⟨g, 0, none⟩), .int .u32 x] w fun E w' => Wrote w g v lim (wrAll l e lim [x / 16777216, x / 65536 % 256, x / 256 % 256, x % 256]) (wrErr l e lim 4) E w' := by
  by_cases hfit : e = 0 ∧ (l.length : Int) + 4 ≤ lim
  · obtain ⟨rfl, hfit⟩ := hfit
    have e1 : wrAll l 0 lim [x / 16777216, x / 65536 % 256, x / 256 % 256, x % 256] = l ++ [x / 16777216, x / 65536 % 256, x / 256 % 256, x % 256] := by unfold wrAll; rw [if_pos ⟨rfl, by simpa using hfit⟩]
    have e2 : wrErr l 0 lim 4 = 0 := by unfold wrErr; rw [if_pos rfl, if_pos hfit]
    rw [e1, e2]
    clear e1 e2
    have c1 : w.cell? ⟨g, 1, none⟩ = some v := by rw [cell_of_block h.1]; rfl
    have hlen := h.len
    have hown := h.2.1
    go_enter Tryd.func33, Tryd.ntmps33
    go_wp2_with fail
    refine (room_yes w g v lim l 4 (by omega) (by omega) h hfit).mono ?_
    rintro E w' ⟨rfl, n, rfl⟩
    go_wp2_with (at_builtin; refine wpList_app rfl _ _ rfl _ l [x / 16777216, x / 65536 % 256, x / 256 % 256, x % 256] rfl ((hown.away (S := []) ((Away.refl [] w).drewN n |>.alloc _) (by simp))) ⟨w.heap.size, 0, none⟩ 4 4 rfl rfl (lit_cells _ [x / 16777216, x / 65536 % 256, x / 256 % 256, x % 256] _ rfl) (by omega) ?_)
    intro v' w2 hown2 hgr hblk
    obtain ⟨d1, d2⟩ := out_cell h (((Away.refl [] w).drewN n).alloc _) hgr
    obtain ⟨a', n', cap', rfl⟩ := hown2.shape
    go_wp2_with fail
    go_end0
    exact wrote_fin h (((Away.refl [] w).drewN n).alloc _) hown2 hgr hblk ((((Bytes.nil.cons (by omega) (by omega)).cons (by omega) (by omega)).cons (by omega) (by omega)).cons (by omega) (by omega)) (by simpa using hfit)
  · have e1 : wrAll l e lim [x / 16777216, x / 65536 % 256, x / 256 % 256, x % 256] = l := by unfold wrAll; rw [if_neg (by simpa using hfit)]
    rw [e1]
    have KEY := room_no w g v lim l e 4 (by omega) (by omega) h hfit
    generalize wrErr l e lim 4 = e' at *
    clear e1
    go_enter Tryd.func33, Tryd.ntmps33
    go_wp2_with fail
    refine KEY.mono ?_
    rintro E w' ⟨rfl, hw, haw⟩
    clear KEY
    go_wp2_with fail
    go_end0
    exact Roomed.wrote hw haw
end Go.Proofs.YtbgpjhekohabiaaDoor
