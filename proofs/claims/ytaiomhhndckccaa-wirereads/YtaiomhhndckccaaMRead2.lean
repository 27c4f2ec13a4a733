/-
  The contracts of the document's reader, on.
-/
import Derived.Test.YtaiomhhndckccaaMRead
namespace Go.Proofs.Ytaiomhhndckccaa
open Go.ChangeShapes Go.WideShapes Go.ChangeAt Go.RowKit
set_option linter.unusedVariables false

/-- What the document's Number did. -/
def MNumb (w : World) (g : Nat) (v : Value) (z : Int) (l : List Int) (e : Int) (E : Ending) (w' : World) : Prop :=
  E = .returned (.int .u64 z) ∧ Mr w' g v l e ∧ Away [g] w w'
set_option maxHeartbeats 400000 in
theorem mnumber_any (w : World) (g : Nat) (v : Value) (l : List Int) (e n : Int) (hn : 0 ≤ n) (hn4 : n ≤ 4) (h : Mr w g v l e) :
    Calls Try.prog 42 #[.pointer (some ⟨g, 0, none⟩), .int .i64 n] w fun E w' => MNumb w g v (num (rdOut l e n)) (rdRest l e n) (rdErr l e n) E w' := by
  have hm4 : (rdOut l e n).length ≤ 4 := by
    obtain ⟨k, rfl⟩ := Int.eq_ofNat_of_zero_le hn
    have := rdOut_len l e k
    omega
  have KEY := mbytes_any w g v l e n h
  generalize rdOut l e n = m at *
  generalize rdRest l e n = l' at *
  generalize rdErr l e n = e' at *
  go_enter Try.func42, Try.ntmps42
  go_wp2_with fail
  refine KEY.mono ?_
  rintro E w1 ⟨u, rfl, hown, hnew, hrd, haw, hmb, hml⟩
  obtain ⟨a, cap, rfl, hcap, hnone, hrow, _⟩ := hown.row hml hmb
  clear KEY hown hnew
  go_wp2_with fail
  go_loop [6, 7] (fun v i => ∃ k : Nat, k ≤ m.length ∧ i = .int .i64 k ∧ v = .int .u64 (num (m.take k))) (fun _ i => m.length - (intOf i).toNat)
  case atStart => exact ⟨0, by omega, rfl, rfl⟩
  case round =>
    obtain ⟨k, hk, rfl, rfl⟩ := hrel
    by_cases hlt : k < m.length
    · rcases hrow.2.2 with h0 | ⟨b, off, rfl, hcell⟩
      · rw [h0] at hlt; simp at hlt
      · have c0 := hcell k hlt
        have bx := hmb.getD k
        have HS : Hid (num (m.take (k + 1)) = 256 * num (m.take k) + m[k]?.getD 0) := by
          show _ = _
          rw [List.take_succ_eq_append_getElem hlt, num_snoc, List.getElem?_eq_getElem hlt]; rfl
        have hb := num_bd _ (hmb.take k)
        have hb2 : num (m.take k) < 16777216 := by
          have := pow_le3 (m.take k).length (by simp; omega)
          omega
        have hb1 := hb.1
        generalize num (m.take k) = p at *
        generalize m[k]?.getD 0 = x at *
        have bx0 := bx.1
        have bx1 := bx.2
        clear hb hcell bx
        go_wp2_with fail
        exact ⟨⟨k + 1, by omega, by go_num, by rw [HS.out, Int.mul_comm]⟩, by simp [intOf]; omega⟩
    · have e0 : m.take k = m := List.take_of_length_le (by omega)
      have HE : Hid (m.take k = m) := e0
      clear e0
      go_wp2_with fail
      go_ret
      exact ⟨by rw [HE.out]; rfl, hrd, haw⟩

/-- What the document's NewReader did. -/
def MOpened (w : World) (l : List Int) (E : Ending) (w' : World) : Prop :=
  ∃ g v, E = .returned (.pointer (some ⟨g, 0, none⟩)) ∧ Mr w' g v l 0 ∧ w.heap.size ≤ g ∧ New w.heap.size v ∧ Away [] w w'
structure MOp (w wr : World) (l : List Int) (k : Nat) : Prop where
  aw : Away [] w wr
  st : ∃ v, wr.heap[w.heap.size]? = some (.cells #[v, .int .i64 0, .int .i64 0] 84 (0, 0)) ∧ Owns wr v (l.take k) ∧ New (w.heap.size + 1) v
set_option maxRecDepth 100000 in
set_option maxHeartbeats 1000000 in
theorem mnewReader_any (a : Option Addr) (l : List Int) (n cap : Nat) (w : World) (hn : l.length = n) (hr : Row w a l) :
    Calls Try.prog 31 #[.slice a n cap] w fun E w' => MOpened w l E w' := by
  subst hn
  have hlen := hr.1
  have hlb := hr.2.1
  have hst : MOp w (w.alloc (.cells #[.slice none 0 0, .int .i64 0, .int .i64 0] 84)) l 0 := ⟨(Away.refl [] w).alloc _, _, block_new _ _, Owns.nil _, New.nil _⟩
  go_enter Try.func31, Try.ntmps31
  go_wp2_with fail
  go_loopw [4] (fun i wr => ∃ k : Nat, k ≤ l.length ∧ i = .int .i64 k ∧ MOp w wr l k) (fun i _ => l.length - (intOf i).toNat)
  case atStart => exact ⟨0, by omega, rfl, hst⟩
  case round =>
    obtain ⟨k, hk, rfl, aw, v, blk, own, new⟩ := hrel
    have hsz := aw.size
    by_cases hlt : k < l.length
    · have hrr := hr.away aw (by simp)
      rcases hrr.2.2 with h0 | ⟨b, off, rfl, hcell⟩
      · rw [h0] at hlt; simp at hlt
      · have cx := hcell k hlt
        have bx := hlb.getD k
        have hbw : b < w.heap.size := by
          rcases hr.2.2 with h0 | ⟨b', off', h1, h2⟩
          · rw [h0] at hlt; simp at hlt
          · simp at h1; rw [h1.1]; exact block_lt_of_cell (h2 k hlt)
        have HS : Hid (l.take (k + 1) = l.take k ++ [l[k]?.getD 0]) := by
          show _ = _
          rw [List.take_succ_eq_append_getElem hlt, List.getElem?_eq_getElem hlt]; rfl
        have hkl : (l.take k).length ≤ 140737488355327 := by simp; omega
        have c0 : wr.cell? ⟨w.heap.size, 0, none⟩ = some v := by rw [cell_of_block blk]; rfl
        have f0 := free_of_block blk 0
        have HB : Hid (wr.heap[w.heap.size]? = some (.cells #[v, .int .i64 0, .int .i64 0] 84 (0, 0))) := blk
        have hglt := lt_of_block blk
        have hgu : w.heap.size ∉ v.ownBlock.toList := fun hj => by
          have h1 := new _ (by simpa using hj)
          omega
        have hbu : b ∉ v.ownBlock.toList := fun hj => by
          have h1 := new _ (by simpa using hj)
          omega
        have hk0 : (0 : Int) ≤ (k : Int) := by omega
        have hk1 : (k : Int) < (l.length : Int) := by omega
        generalize l[k]?.getD 0 = x at *
        generalize l.take k = done at *
        clear hcell hrr blk
        go_wp2_with fail
        go_region_law ((refine step_app rfl (.tmp 17) (.tmp 22) rfl v done [x] (by simp [Act.eval]) (by exact own.away (((Away.refl [] _).alloc _).drew) (by simp)) ⟨wr.heap.size, 0, none⟩ 1 1 (by simp [Act.eval]) rfl (by exact lit_cells _ [x] _ rfl) (by omega) ?_; intro v' w2 hown2 hgr hmov; have haw2 : Away v.ownBlock.toList wr w2 := (((Away.refl _ wr).alloc _).drew).grown hgr (fun k hk => .inl (by simp [hk])); have z0 := haw2.cell hgu c0; have hblk2 := haw2.keep hgu HB.out; have g0 := free_of_block hblk2 0; obtain ⟨va, vn, vc, rfl⟩ := hown2.shape))
        all_goals
          have hnew2 := new.moved hmov (by simp; omega)
          have haw3 : Away [] w w2 := ((aw.alloc _).drew).grown hgr (fun k hk => .inr (by have := new k hk; omega))
          clear hgr hmov haw2
          go_wp2_with fail
          go_roundw
          case rel =>
            refine ⟨k + 1, by omega, by go_num, haw3.setCell (.inr (Nat.le_refl _)) _, _, ?_, ?_, hnew2⟩
            · rw [block_set hblk2]; rfl
            · rw [HS.out]
              exact hown2.away (S := [w.heap.size]) ((Away.refl _ w2).setCell (.inl (by simp)) _) (fun j hj => by have h1 := hnew2 j hj; simp; omega)
          case measure => simp [intOf]; omega
    · have e0 : l.take k = l := List.take_of_length_le (by omega)
      rw [e0] at own
      go_wp2_with fail
      go_ret
      refine ⟨w.heap.size, v, rfl, ⟨l, 0, blk, Nat.zero_le _, rfl, own, fun k hk => ?_, hlb, hlen⟩, Nat.le_refl _, fun k hk => ?_, aw⟩
      · have := new k hk; omega
      · have := new k hk; omega
end Go.Proofs.Ytaiomhhndckccaa
