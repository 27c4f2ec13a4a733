/-
  alive: the chapter's first example.
-/
import Derived.Test.YtepbgigoekpdeaaHlp
namespace Go.Proofs.Ytepbgigoekpdeaa
open Go.ChangeShapes Go.WideShapes Go.ChangeAt Go.RowKit
set_option linter.unusedVariables false

def atL : List Int := [0, 0, 4, 4, 9, 10, 10, 10, 13, 14]
def wantL : List Int := [0, 1, 2, -1, -1, 0, 1, -1, -1, 2]
def gs (i : Nat) : List Int := (atL.take i).foldl (nextG 3 10) []
def okAt (i : Nat) : Prop := ∃ a b, atL[i]? = some a ∧ wantL[i]? = some b ∧ -1 ≤ b ∧ b ≤ 3 ∧ gs (i + 1) = nextG 3 10 (gs i) a ∧ (gs i).length ≤ 10 ∧ (b < 0 → nextE 3 10 (gs i) a = 120) ∧ (0 ≤ b → nextE 3 10 (gs i) a = 0 ∧ nextN 3 10 (gs i) a = b)
theorem gs_ok (i : Nat) (h : i < 10) : okAt i := by
  unfold okAt
  match i, h with
  | 0, _ => exact ⟨_, _, rfl, rfl, by decide, by decide, by decide, by decide, by decide, by decide⟩
  | 1, _ => exact ⟨_, _, rfl, rfl, by decide, by decide, by decide, by decide, by decide, by decide⟩
  | 2, _ => exact ⟨_, _, rfl, rfl, by decide, by decide, by decide, by decide, by decide, by decide⟩
  | 3, _ => exact ⟨_, _, rfl, rfl, by decide, by decide, by decide, by decide, by decide, by decide⟩
  | 4, _ => exact ⟨_, _, rfl, rfl, by decide, by decide, by decide, by decide, by decide, by decide⟩
  | 5, _ => exact ⟨_, _, rfl, rfl, by decide, by decide, by decide, by decide, by decide, by decide⟩
  | 6, _ => exact ⟨_, _, rfl, rfl, by decide, by decide, by decide, by decide, by decide, by decide⟩
  | 7, _ => exact ⟨_, _, rfl, rfl, by decide, by decide, by decide, by decide, by decide, by decide⟩
  | 8, _ => exact ⟨_, _, rfl, rfl, by decide, by decide, by decide, by decide, by decide, by decide⟩
  | 9, _ => exact ⟨_, _, rfl, rfl, by decide, by decide, by decide, by decide, by decide, by decide⟩
  | n + 10, h => omega
theorem gs_end : busyN 10 (gs 10) 14 = 3 ∧ busyE (gs 10) 14 = 0 ∧ nextE 3 10 (gs 10) 13 = 1 ∧ (gs 10).length ≤ 10 := by decide
set_option maxRecDepth 100000 in
set_option maxHeartbeats 4000000 in
theorem alive_c (w : World) : Calls Try.prog 8 #[] w fun E w' => E = .returned (.bool true) ∧ Away [] w w' := by
  have HN : Hid (∀ w, Calls Try.prog 9 #[.int .i64 3, .int .i64 10] w fun E w' => ∃ g c, E = .returned (.tuple #[.pointer (some ⟨g, 0, none⟩), .int .i64 0]) ∧ Fresh w w' g c 3 10) := fun w => new_yes 3 10 w (by decide) (by decide) (by decide) (by decide)
  go_enter Try.func8, Try.ntmps8
  go_wp2_with fail
  refine (HN.out _).mono ?_
  rintro E w1 ⟨g, c, rfl, hsc, hg, hc, haw⟩
  have H := hidI hsc
  have HA := hidI haw
  clear hsc haw
  go_wp2_with fail
  have hz := HA.out.size
  have hlt : g < w1.heap.size ∧ c < w1.heap.size := by obtain ⟨bs, h⟩ := H.out; exact ⟨lt_of_block h.cs.blk, lt_of_block h.cs.box⟩
  generalize hW : (w1.alloc _).alloc _ = W
  have HB1 : Hid (W.heap[w1.heap.size]? = some (.cells (atL.map (Value.int .i64)).toArray 53 (0, 0))) := by
    show _ = _
    rw [← hW]
    exact (Below.heap_alloc _ _ _ (by simp)).trans (block_new w1 _)
  have HB2 : Hid (W.heap[w1.heap.size + 1]? = some (.cells (wantL.map (Value.int .i64)).toArray 54 (0, 0))) := by
    show _ = _
    rw [← hW]
    exact block_new' w1 _ _
  have haw : Away [] w1 W := by rw [← hW]; exact ((Away.refl [] w1).alloc _).alloc _
  have H1 : Hid (Sc W g c (.slice none 0 0) 3 10 []) := by obtain ⟨bs, h⟩ := H.out; exact ⟨bs, h.on haw⟩
  have HA1 := hidI (HA.out.trans haw)
  clear hW haw H HA
  go_loopw [5] (fun i wr => ∃ (k : Nat) (v : Value), k ≤ 10 ∧ i = .int .i64 (k : Int) ∧ Sc wr g c v 3 10 (gs k) ∧ New w.heap.size v ∧ Away [] w wr ∧ wr.heap[w1.heap.size]? = some (.cells (atL.map (Value.int .i64)).toArray 53 (0, 0)) ∧ wr.heap[w1.heap.size + 1]? = some (.cells (wantL.map (Value.int .i64)).toArray 54 (0, 0)) ∧ (∀ k, v.ownBlock = some k → k ≠ w1.heap.size ∧ k ≠ w1.heap.size + 1)) (fun i _ => 10 - (intOf i).toNat)
  case atStart => exact ⟨0, _, by omega, rfl, H1.out, New.nil _, HA1.out, HB1.out, HB2.out, by simp [Value.ownBlock]⟩
  case round =>
    obtain ⟨k, v, hk, rfl, hsc, hnew, haw, hb1, hb2, hne⟩ := hrel
    have HS := hidI hsc; have HNW := hidI hnew; have HAW := hidI haw; have HNE := hidI hne
    have HC1 := hidI hb1; have HC2 := hidI hb2
    clear hsc hnew haw hne HB1 HB2 H1 HA1
    by_cases hlt2 : k < 10
    · obtain ⟨a, b, ha, hb, b1, b2, hgs, hlen, hneg, hpos⟩ := gs_ok k hlt2
      have c1 : wr.cell? ⟨w1.heap.size, k, none⟩ = some (.int .i64 a) := by rw [cell_of_block hb1]; simp [ha]
      have c2 : wr.cell? ⟨w1.heap.size + 1, k, none⟩ = some (.int .i64 b) := by rw [cell_of_block hb2]; simp [hb]
      have HGS := hidI hgs; have HNG := hidI hneg; have HPS := hidI hpos
      clear hb1 hb2 ha hb hgs hneg hpos
      have t2 : 0 ≤ (k : Int) := by omega
      have t3 : (k : Int) < 10 := by omega
      have t4 : ((k : Int)).toNat = k := by omega
      have HNX : Hid (∀ wx, Sc wx g c v 3 10 (gs k) → Calls Try.prog 10 #[.pointer (some ⟨g, 0, none⟩), .int .i64 a] wx fun E w' => E = .returned (.tuple #[.int .u32 (nextN 3 10 (gs k) a), .int .i64 (nextE 3 10 (gs k) a)]) ∧ Asked wx w' g c v 3 10 (gs (k + 1))) := fun wx h => by
        have := next_c a h (by omega)
        rw [← HGS.out] at this
        exact this
      go_wp2_with fail
      refine (HNX.out _ HS.out).mono ?_
      rintro E w3 ⟨rfl, v3, hs3, hm3, haw3⟩
      have hfp : ∀ x ∈ fp g v, w.heap.size ≤ x := fun x hx => by
        simp [fp] at hx
        rcases hx with rfl | hx
        · exact hg
        · exact HNW.out x hx
      have hav3 : Away [] w w3 := HAW.out.next haw3 (fun x hx => .inr (hfp x hx))
      have hn1 : w1.heap.size ∉ fp g v := fun h => by
        simp [fp] at h
        rcases h with h | h
        · omega
        · exact (HNE.out _ h).1 rfl
      have hn2 : w1.heap.size + 1 ∉ fp g v := fun h => by
        simp [fp] at h
        rcases h with h | h
        · omega
        · exact (HNE.out _ h).2 rfl
      have d2 := haw3.cell hn2 c2
      have hwr := HAW.out.size
      have hl1 := lt_of_block HC1.out
      have hl2 := lt_of_block HC2.out
      have HR : Hid (∃ v, Sc w3 g c v 3 10 (gs (k + 1)) ∧ New w.heap.size v ∧ Away [] w w3 ∧ w3.heap[w1.heap.size]? = some (.cells (atL.map (Value.int .i64)).toArray 53 (0, 0)) ∧ w3.heap[w1.heap.size + 1]? = some (.cells (wantL.map (Value.int .i64)).toArray 54 (0, 0)) ∧ (∀ k, v.ownBlock = some k → k ≠ w1.heap.size ∧ k ≠ w1.heap.size + 1)) := by
        refine ⟨v3, hs3, HNW.out.moved hm3 (by omega), hav3, haw3.keep hn1 HC1.out, haw3.keep hn2 HC2.out, fun q hq => ?_⟩
        rcases hm3 q hq with h | h
        · exact HNE.out q h
        · omega
      clear hs3 hm3 haw3 hfp hav3 hn1 hn2 c1 c2 hwr hl1 hl2
      by_cases hb : b < 0
      · rw [HNG.out hb]
        generalize nextN 3 10 (gs k) a = r at *
        clear HNX HNG HPS HGS
        go_wp2_with fail
        go_roundw
        case rel => obtain ⟨v, h⟩ := HR.out; exact ⟨k + 1, v, by omega, by go_num, h⟩
        case measure => simp [intOf]; omega
      · rw [(HPS.out (by omega)).1, (HPS.out (by omega)).2]
        clear HNX HNG HPS HGS
        go_wp2_with fail
        go_roundw
        case rel => obtain ⟨v, h⟩ := HR.out; exact ⟨k + 1, v, by omega, by go_num, h⟩
        case measure => simp [intOf]; omega
    · obtain rfl : k = 10 := by omega
      have KB : Hid (∀ wx, Sc wx g c v 3 10 (gs 10) → Calls Try.prog 11 #[.pointer (some ⟨g, 0, none⟩), .int .i64 14] wx fun E w' => E = .returned (.tuple #[.int .i64 3, .int .i64 0]) ∧ Away [] wx w') := fun wx h => by
        have := bsy_c 14 h
        rw [gs_end.1, gs_end.2.1] at this
        exact this
      have KN : Hid (∀ wx, Sc wx g c v 3 10 (gs 10) → Calls Try.prog 10 #[.pointer (some ⟨g, 0, none⟩), .int .i64 13] wx fun E w' => ∃ n, E = .returned (.tuple #[.int .u32 n, .int .i64 1]) ∧ Away (fp g v) wx w') := fun wx h => by
        have := next_c 13 h (by have := gs_end.2.2.2; omega)
        rw [gs_end.2.2.1] at this
        exact this.mono (fun E w' hh => ⟨_, hh.1, by obtain ⟨v', h1, h2, h3⟩ := hh.2; exact h3⟩)
      clear hb1 hb2
      go_wp2_with fail
      refine (KB.out _ HS.out).mono ?_
      rintro E w3 ⟨rfl, haw3⟩
      go_wp2_with fail
      refine (KN.out _ (by obtain ⟨bs, h⟩ := HS.out; exact ⟨bs, h.on haw3⟩)).mono ?_
      rintro E w4 ⟨n, rfl, haw4⟩
      have HE : Hid (Away [] w w4) := (HAW.out.trans haw3).next haw4 (fun x hx => .inr (by
        simp [fp] at hx
        rcases hx with rfl | hx
        · exact hg
        · exact HNW.out x hx))
      clear haw3 haw4
      go_wp2_with fail
      go_ret
      exact ⟨rfl, HE.out⟩
end Go.Proofs.Ytepbgigoekpdeaa
