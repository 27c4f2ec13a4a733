/-
  The contracts of wire's Writer, on.
-/
import Derived.Test.YtaiomhhndckccaaWrite
namespace Go.Proofs.Ytaiomhhndckccaa
open Go.ChangeShapes Go.WideShapes Go.ChangeAt Go.RowKit
set_option linter.unusedVariables false

/-- What a write did. -/
def Wrote (w : World) (g : Nat) (v : Value) (lim : Int) (l : List Int) (e : Int) (E : Ending) (w' : World) : Prop :=
  E = .returned (.tuple #[]) ∧ ∃ v', Wr w' g v' lim l e ∧ Moved w v v' ∧ Away (fp g v) w w'
theorem Roomed.wrote {w w' : World} {g : Nat} {v : Value} {lim : Int} {l : List Int} {e : Int} (h : Wr w' g v lim l e) (ha : Away [g] w w') : Wrote w g v lim l e (.returned (.tuple #[])) w' :=
  ⟨rfl, v, h, Moved.refl _ _, ha.mono (by simp [fp])⟩
/-- The end of a write that fits: behind the append the slice is stored. -/
theorem wrote_fin {w w1 w2 : World} {g : Nat} {v v' : Value} {lim : Int} {l m : List Int} (h : Wr w g v lim l 0) (h1 : Away [] w w1) (hown : Owns w2 v' (l ++ m)) (hg : w1.grownBy w2 v.ownBlock) (hm : Moved w1 v v')
    (hb : Bytes m) (hfit : (l.length : Int) + m.length ≤ lim) : Wrote w g v lim (l ++ m) 0 (.returned (.tuple #[])) (w2.setCell ⟨g, 1, none⟩ v') := by
  obtain ⟨hblk, hown0, hne, hby, hll, hlim⟩ := h
  have hglt := lt_of_block hblk
  have hs1 := h1.size
  have haw : Away (fp g v) w w2 := (h1.mono (T := fp g v) (by simp)).grown hg (fun k hk => .inl (fp_own hk))
  have hb1 : w1.heap[g]? = some (.cells #[.int .i64 lim, v, .int .i64 0] 79 (0, 0)) := h1.keep (by simp) hblk
  have hb2 : w2.heap[g]? = some (.cells #[.int .i64 lim, v, .int .i64 0] 79 (0, 0)) := by
    rw [hg.block g (lt_of_block hb1) (fun e => hne g e.symm rfl)]; exact hb1
  have hne' : ∀ k, v'.ownBlock = some k → k ≠ g := by
    intro k hk
    rcases hm k hk with h | h
    · exact hne k h
    · omega
  refine ⟨rfl, v', ⟨?_, ?_, hne', hby.app hb, by simp; omega, hlim⟩, fun k hk => ?_, haw.setCell (.inl (fp_self _ _)) _⟩
  · rw [block_set hb2]; rfl
  · exact hown.away (S := [g]) ((Away.refl [g] w2).setCell (.inl (by simp)) _) (fun k hk => by simpa using hne' k hk)
  · rcases hm k hk with h | h
    · exact .inl h
    · right; omega
/-- The slice's cell behind the append. -/
theorem out_cell {w w1 w2 : World} {g : Nat} {v : Value} {lim : Int} {l : List Int} {e : Int} (h : Wr w g v lim l e) (h1 : Away [] w w1) (hg : w1.grownBy w2 v.ownBlock) : w2.cell? ⟨g, 1, none⟩ = some v ∧ w2.frozen? ⟨g, 1, none⟩ = false := by
  have hb1 := h1.keep (by simp) h.1
  have hb2 : w2.heap[g]? = some (.cells #[.int .i64 lim, v, .int .i64 e] 79 (0, 0)) := by
    rw [hg.block g (lt_of_block hb1) (fun e => h.2.2.1 g e.symm rfl)]; exact hb1
  exact ⟨by rw [cell_of_block hb2]; rfl, free_of_block hb2 1⟩

theorem Owns.shape {w : World} {v : Value} {l : List Int} (h : Owns w v l) : ∃ a n c, v = .slice a n c := by
  rcases h.2 with ⟨rfl, _⟩ | ⟨g, cap, cur, rfl, _⟩
  · exact ⟨_, _, _, rfl⟩
  · exact ⟨_, _, _, rfl⟩
set_option maxHeartbeats 400000 in
theorem w8_any (w : World) (g : Nat) (v : Value) (lim : Int) (l : List Int) (e x : Int) (h : Wr w g v lim l e) (hx : 0 ≤ x) (hx' : x ≤ 255) :
    Calls Try.prog 27 #[.pointer (some ⟨g, 0, none⟩), .int .u8 x] w fun E w' => Wrote w g v lim (wrAll l e lim [x]) (wrErr l e lim 1) E w' := by
  by_cases hfit : e = 0 ∧ (l.length : Int) + 1 ≤ lim
  · obtain ⟨rfl, hfit⟩ := hfit
    have e1 : wrAll l 0 lim [x] = l ++ [x] := by unfold wrAll; rw [if_pos ⟨rfl, by simpa using hfit⟩]
    have e2 : wrErr l 0 lim 1 = 0 := by unfold wrErr; rw [if_pos rfl, if_pos hfit]
    rw [e1, e2]
    clear e1 e2
    have c1 : w.cell? ⟨g, 1, none⟩ = some v := by rw [cell_of_block h.1]; rfl
    have hlen := h.len
    have hown := h.2.1
    go_enter Try.func27, Try.ntmps27
    go_wp2_with fail
    refine (room_yes w g v lim l 1 (by omega) (by omega) h hfit).mono ?_
    rintro E w' ⟨rfl, n, rfl⟩
    go_wp2_with (at_builtin; refine wpList_app rfl _ _ rfl _ l [x] rfl ((hown.away (S := []) ((Away.refl [] w).drewN n |>.alloc _) (by simp))) ⟨w.heap.size, 0, none⟩ 1 1 rfl rfl (lit_cells _ [x] _ rfl) (by omega) ?_)
    intro v' w2 hown2 hgr hblk
    obtain ⟨d1, d2⟩ := out_cell h (((Away.refl [] w).drewN n).alloc _) hgr
    obtain ⟨a', n', cap', rfl⟩ := hown2.shape
    go_wp2_with fail
    go_end0
    exact wrote_fin h (((Away.refl [] w).drewN n).alloc _) hown2 hgr hblk (Bytes.nil.cons hx hx') (by simpa using hfit)
  · have e1 : wrAll l e lim [x] = l := by unfold wrAll; rw [if_neg (by simpa using hfit)]
    rw [e1]
    have KEY := room_no w g v lim l e 1 (by omega) (by omega) h hfit
    generalize wrErr l e lim 1 = e' at *
    clear e1
    go_enter Try.func27, Try.ntmps27
    go_wp2_with fail
    refine KEY.mono ?_
    rintro E w' ⟨rfl, hw, haw⟩
    clear KEY
    go_wp2_with fail
    go_end0
    exact Roomed.wrote hw haw
set_option maxHeartbeats 400000 in
theorem w16_any (w : World) (g : Nat) (v : Value) (lim : Int) (l : List Int) (e x : Int) (h : Wr w g v lim l e) (hx : 0 ≤ x) (hx' : x ≤ 65535) :
    Calls Try.prog 23 #[.pointer (some ⟨g, 0, none⟩), .int .u16 x] w fun E w' => Wrote w g v lim (wrAll l e lim [x / 256, x % 256]) (wrErr l e lim 2) E w' := by
  by_cases hfit : e = 0 ∧ (l.length : Int) + 2 ≤ lim
  · obtain ⟨rfl, hfit⟩ := hfit
    have e1 : wrAll l 0 lim [x / 256, x % 256] = l ++ [x / 256, x % 256] := by unfold wrAll; rw [if_pos ⟨rfl, by simpa using hfit⟩]
    have e2 : wrErr l 0 lim 2 = 0 := by unfold wrErr; rw [if_pos rfl, if_pos hfit]
    rw [e1, e2]
    clear e1 e2
    have c1 : w.cell? ⟨g, 1, none⟩ = some v := by rw [cell_of_block h.1]; rfl
    have hlen := h.len
    have hown := h.2.1
    go_enter Try.func23, Try.ntmps23
    go_wp2_with fail
    refine (room_yes w g v lim l 2 (by omega) (by omega) h hfit).mono ?_
    rintro E w' ⟨rfl, n, rfl⟩
    go_wp2_with (at_builtin; refine wpList_app rfl _ _ rfl _ l [x / 256, x % 256] rfl ((hown.away (S := []) ((Away.refl [] w).drewN n |>.alloc _) (by simp))) ⟨w.heap.size, 0, none⟩ 2 2 rfl rfl (lit_cells _ [x / 256, x % 256] _ rfl) (by omega) ?_)
    intro v' w2 hown2 hgr hblk
    obtain ⟨d1, d2⟩ := out_cell h (((Away.refl [] w).drewN n).alloc _) hgr
    obtain ⟨a', n', cap', rfl⟩ := hown2.shape
    go_wp2_with fail
    go_end0
    exact wrote_fin h (((Away.refl [] w).drewN n).alloc _) hown2 hgr hblk ((Bytes.nil.cons (by omega) (by omega)).cons (by omega) (by omega)) (by simpa using hfit)
  · have e1 : wrAll l e lim [x / 256, x % 256] = l := by unfold wrAll; rw [if_neg (by simpa using hfit)]
    rw [e1]
    have KEY := room_no w g v lim l e 2 (by omega) (by omega) h hfit
    generalize wrErr l e lim 2 = e' at *
    clear e1
    go_enter Try.func23, Try.ntmps23
    go_wp2_with fail
    refine KEY.mono ?_
    rintro E w' ⟨rfl, hw, haw⟩
    clear KEY
    go_wp2_with fail
    go_end0
    exact Roomed.wrote hw haw
set_option maxHeartbeats 400000 in
theorem w32_any (w : World) (g : Nat) (v : Value) (lim : Int) (l : List Int) (e x : Int) (h : Wr w g v lim l e) (hx : 0 ≤ x) (hx' : x ≤ 4294967295) :
    Calls Try.prog 37 #[.pointer (some ⟨g, 0, none⟩), .int .u32 x] w fun E w' => Wrote w g v lim (wrAll l e lim [x / 16777216, x / 65536 % 256, x / 256 % 256, x % 256]) (wrErr l e lim 4) E w' := by
  by_cases hfit : e = 0 ∧ (l.length : Int) + 4 ≤ lim
  · obtain ⟨rfl, hfit⟩ := hfit
    have e1 : wrAll l 0 lim [x / 16777216, x / 65536 % 256, x / 256 % 256, x % 256] = l ++ [x / 16777216, x / 65536 % 256, x / 256 % 256, x % 256] := by unfold wrAll; rw [if_pos ⟨rfl, by simpa using hfit⟩]
    have e2 : wrErr l 0 lim 4 = 0 := by unfold wrErr; rw [if_pos rfl, if_pos hfit]
    rw [e1, e2]
    clear e1 e2
    have c1 : w.cell? ⟨g, 1, none⟩ = some v := by rw [cell_of_block h.1]; rfl
    have hlen := h.len
    have hown := h.2.1
    go_enter Try.func37, Try.ntmps37
    go_wp2_with fail
    refine (room_yes w g v lim l 4 (by omega) (by omega) h hfit).mono ?_
    rintro E w' ⟨rfl, n, rfl⟩
    go_wp2_with (at_builtin; refine wpList_app rfl _ _ rfl _ l [x / 16777216, x / 65536 % 256, x / 256 % 256, x % 256] rfl ((hown.away (S := []) ((Away.refl [] w).drewN n |>.alloc _) (by simp))) ⟨w.heap.size, 0, none⟩ 4 4 rfl rfl (lit_cells _ [x / 16777216, x / 65536 % 256, x / 256 % 256, x % 256] _ rfl) (by omega) ?_)
    intro v' w2 hown2 hgr hblk
    obtain ⟨d1, d2⟩ := out_cell h (((Away.refl [] w).drewN n).alloc _) hgr
    obtain ⟨a', n', cap', rfl⟩ := hown2.shape
    go_wp2_with fail
    go_end0
    exact wrote_fin h (((Away.refl [] w).drewN n).alloc _) hown2 hgr hblk ((((Bytes.nil.cons (by omega) (by omega)).cons (by omega) (by omega)).cons (by omega) (by omega)).cons (by omega) (by omega)) (by simpa using hfit)
  · have e1 : wrAll l e lim [x / 16777216, x / 65536 % 256, x / 256 % 256, x % 256] = l := by unfold wrAll; rw [if_neg (by simpa using hfit)]
    rw [e1]
    have KEY := room_no w g v lim l e 4 (by omega) (by omega) h hfit
    generalize wrErr l e lim 4 = e' at *
    clear e1
    go_enter Try.func37, Try.ntmps37
    go_wp2_with fail
    refine KEY.mono ?_
    rintro E w' ⟨rfl, hw, haw⟩
    clear KEY
    go_wp2_with fail
    go_end0
    exact Roomed.wrote hw haw
set_option maxHeartbeats 400000 in
theorem wbytes_any (w : World) (g : Nat) (v : Value) (lim : Int) (l : List Int) (e : Int) (a : Option Addr) (m : List Int) (n cap : Nat) (h : Wr w g v lim l e) (hn : m.length = n) (ha : a = none → cap = 0) (hr : Row w a m) :
    Calls Try.prog 16 #[.pointer (some ⟨g, 0, none⟩), .slice a n cap] w fun E w' => Wrote w g v lim (wrAll l e lim m) (wrErr l e lim m.length) E w' := by
  subst hn
  have hml := hr.1
  by_cases hfit : e = 0 ∧ (l.length : Int) + m.length ≤ lim
  · obtain ⟨rfl, hfit⟩ := hfit
    have e1 : wrAll l 0 lim m = l ++ m := by unfold wrAll; rw [if_pos ⟨rfl, hfit⟩]
    have e2 : wrErr l 0 lim m.length = 0 := by unfold wrErr; rw [if_pos rfl, if_pos hfit]
    rw [e1, e2]
    clear e1 e2
    have c1 : w.cell? ⟨g, 1, none⟩ = some v := by rw [cell_of_block h.1]; rfl
    have hlen := h.len
    have hlim := h.2.2.2.2.2
    have hown := h.2.1
    rcases a with _ | ad
    · have h0 : m = [] := by rcases hr.2.2 with h | ⟨_, _, h, _⟩ <;> simp_all
      subst h0
      obtain rfl := ha rfl
      have f1 := free_of_block h.1 1
      obtain ⟨a', n', cap', rfl⟩ := hown.shape
      go_enter Try.func16, Try.ntmps16
      go_wp2_with fail
      refine (room_yes w g _ lim l 0 (by omega) (by omega) h (by simpa using hfit)).mono ?_
      rintro E w' ⟨rfl, n, rfl⟩
      go_wp2_with (at_builtin; refine wpList_app_none rfl _ _ rfl _ l rfl (by exact hown) rfl ?_)
      go_wp2_with fail
      go_end0
      rw [List.append_nil]
      have haw : Away [g] w ((w.drewN n).setCell ⟨g, 1, none⟩ (.slice a' n' cap')) := ((Away.refl [g] w).drewN n).setCell (.inl (by simp)) _
      refine Roomed.wrote ⟨?_, hown.away haw (fun k hk => by simpa using h.2.2.1 k hk), h.2.2.1, h.2.2.2.1, h.2.2.2.2.1, h.2.2.2.2.2⟩ haw
      rw [block_set (w := w.drewN n) h.1]; rfl
    · have hsrc : ∀ j u, (m.map (Value.int .u8))[j]? = some u → w.cell? (ad.add j) = some u := hr.src
      have HS : Hid (∀ j u, (m.map (Value.int .u8))[j]? = some u → w.cell? (ad.add j) = some u) := hsrc
      clear hsrc
      have hmb := hr.2.1
      go_enter Try.func16, Try.ntmps16
      go_wp2_with fail
      refine (room_yes w g v lim l m.length (by omega) (by omega) h hfit).mono ?_
      rintro E w' ⟨rfl, n, rfl⟩
      go_wp2_with (at_builtin; refine wpList_app rfl _ _ rfl _ l m rfl (by exact hown) ad m.length cap rfl rfl (by exact HS.out) (by omega) ?_)
      intro v' w2 hown2 hgr hblk
      obtain ⟨d1, d2⟩ := out_cell h ((Away.refl [] w).drewN n) hgr
      obtain ⟨a', n', cap', rfl⟩ := hown2.shape
      go_wp2_with fail
      go_end0
      exact wrote_fin h ((Away.refl [] w).drewN n) hown2 hgr hblk hmb hfit
  · have e1 : wrAll l e lim m = l := by unfold wrAll; rw [if_neg hfit]
    rw [e1]
    have KEY := room_no w g v lim l e m.length (by omega) (by omega) h hfit
    generalize wrErr l e lim m.length = e' at *
    clear e1
    go_enter Try.func16, Try.ntmps16
    go_wp2_with fail
    refine KEY.mono ?_
    rintro E w' ⟨rfl, hw, haw⟩
    clear KEY
    go_wp2_with fail
    go_end0
    exact Roomed.wrote hw haw
end Go.Proofs.Ytaiomhhndckccaa
