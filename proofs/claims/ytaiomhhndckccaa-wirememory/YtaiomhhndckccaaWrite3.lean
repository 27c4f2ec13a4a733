/-
  The contracts of wire's Writer: Put16, Len, Err, Out, NewWriter.
-/
import Derived.Test.YtaiomhhndckccaaWrite2
namespace Go.Proofs.Ytaiomhhndckccaa
open Go.ChangeShapes Go.WideShapes Go.ChangeAt Go.RowKit
set_option linter.unusedVariables false

def putAll (l : List Int) (e at' x : Int) : List Int := if e = 0 ∧ 0 ≤ at' ∧ at' + 2 ≤ l.length then (l.set at'.toNat (x / 256)).set (at'.toNat + 1) (x % 256) else l
def putErr (l : List Int) (e at' : Int) : Int := if e = 0 then if 0 ≤ at' ∧ at' + 2 ≤ l.length then 0 else 1 else e

set_option maxHeartbeats 400000 in
theorem put16_any (w : World) (g : Nat) (v : Value) (lim : Int) (l : List Int) (e p x : Int) (h : Wr w g v lim l e) (hx : 0 ≤ x) (hx' : x ≤ 65535) (hp : -9223372036854775808 ≤ p) (hp' : p ≤ 9223372036854775807) :
    Calls Try.prog 17 #[.pointer (some ⟨g, 0, none⟩), .int .i64 p, .int .u16 x] w fun E w' => Wrote w g v lim (putAll l e p x) (putErr l e p) E w' := by
  obtain ⟨a, cap, hv, hcap, hnone, hrow, hat⟩ := h.slice
  subst hv
  have h0 := h
  obtain ⟨hb, hown, hne, hby, hll, hlim⟩ := h
  have c1 : w.cell? ⟨g, 1, none⟩ = some (.slice a l.length cap) := by rw [cell_of_block hb]; rfl
  have c2 : w.cell? ⟨g, 2, none⟩ = some (.int .i64 e) := by rw [cell_of_block hb]; rfl
  have f2 := free_of_block hb 2
  have HB : Hid (w.heap[g]? = some (.cells #[.int .i64 lim, .slice a l.length cap, .int .i64 e] 79 (0, 0))) := hb
  clear hb
  by_cases he : e = 0
  · subst he
    have hlen : l.length ≤ 65575 := by omega
    by_cases hok : 0 ≤ p ∧ p + 2 ≤ l.length
    · obtain ⟨k, rfl⟩ := Int.eq_ofNat_of_zero_le hok.1
      have e1 : putAll l 0 k x = (l.set k (x / 256)).set (k + 1) (x % 256) := by unfold putAll; rw [if_pos ⟨rfl, hok⟩, Int.toNat_natCast]
      have e2 : putErr l 0 k = 0 := by unfold putErr; rw [if_pos rfl, if_pos hok]
      rw [e1, e2]
      clear e1 e2
      have hk : k + 2 ≤ l.length := by omega
      have HROW : Hid (Row w a l) := hrow
      rcases a with _ | ⟨b, off, spot⟩
      · rcases hrow.2.2 with h | ⟨_, _, h, _⟩
        · rw [h] at hk; simp at hk
        · simp at h
      obtain ⟨hs1, hs2⟩ := hat _ rfl
      simp only at hs1 hs2
      subst hs1; subst hs2
      have hbg : b ≠ g := hne b rfl
      obtain ⟨d0, g0⟩ := hown.cells k (by omega)
      obtain ⟨d1, g1⟩ := hown.cells (k + 1) (by omega)
      have HO : Hid (Owns w (.slice (some ⟨b, 0, none⟩) l.length cap) l) := hown
      have hgb : ¬ g = b := fun h => hbg h.symm
      clear hat hrow hok hown
      go_enter Try.func17, Try.ntmps17
      go_wp2_with fail
      go_end0
      have haw : Away (fp g (.slice (some ⟨b, 0, none⟩) l.length cap)) w ((w.setCell ⟨b, k, none⟩ (.int .u8 (x / 256))).setCell ⟨b, k + 1, none⟩ (.int .u8 (x % 256))) := ((Away.refl _ w).setCell (.inl (by simp [fp, Value.ownBlock])) _).setCell (.inl (by simp [fp, Value.ownBlock])) _
      have hset := (HO.out.set rfl k (x / 256)).set (by simp) (k + 1) (x % 256)
      refine ⟨rfl, _, ⟨?_, hset, hne, (hby.set k (by omega) (by omega)).set (k + 1) (by omega) (by omega), by simpa using hll, hlim⟩, Moved.refl _ _, haw⟩
      rw [block_set_other hgb, block_set_other hgb]
      exact HB.out
    · have e1 : putAll l 0 p x = l := by unfold putAll; rw [if_neg (fun h => hok h.2)]
      have e2 : putErr l 0 p = 1 := by unfold putErr; rw [if_pos rfl, if_neg hok]
      rw [e1, e2]
      clear e1 e2
      by_cases hneg : p < 0
      · clear hok
        go_enter Try.func17, Try.ntmps17
        go_wp2_with fail
        refine bodyPost_ret (results_none rfl _ _ _) rfl ?_
        have haw : Away [g] w (w.setCell ⟨g, 2, none⟩ (.int .i64 1)) := (Away.refl [g] w).setCell (.inl (by simp)) _
        refine Roomed.wrote ⟨?_, hown.away haw (fun k hk => by simpa using hne k hk), hne, hby, hll, hlim⟩ haw
        rw [block_set HB.out]; rfl
      · have hbig : (l.length : Int) - 2 < p := by omega
        have hneg' : 0 ≤ p := by omega
        clear hok
        go_enter Try.func17, Try.ntmps17
        go_wp2_with fail
        refine bodyPost_ret (results_none rfl _ _ _) rfl ?_
        have haw : Away [g] w (w.setCell ⟨g, 2, none⟩ (.int .i64 1)) := (Away.refl [g] w).setCell (.inl (by simp)) _
        refine Roomed.wrote ⟨?_, hown.away haw (fun k hk => by simpa using hne k hk), hne, hby, hll, hlim⟩ haw
        rw [block_set HB.out]; rfl
  · have e1 : putAll l e p x = l := by unfold putAll; rw [if_neg (fun h => he h.1)]
    have e2 : putErr l e p = e := by unfold putErr; rw [if_neg he]
    rw [e1, e2]
    clear e1 e2
    have b1 : (e == 0) = false := by simp [he]
    have b2 : (e != 0) = true := by simp [he]
    go_enter Try.func17, Try.ntmps17
    go_wp2_with fail
    refine bodyPost_ret (results_none rfl _ _ _) rfl ?_
    exact Roomed.wrote h0 (Away.refl _ _)
set_option maxHeartbeats 400000 in
theorem wlen_any (w : World) (g : Nat) (v : Value) (lim : Int) (l : List Int) (e : Int) (h : Wr w g v lim l e) :
    Calls Try.prog 19 #[.pointer (some ⟨g, 0, none⟩)] w fun E w' => E = .returned (.int .i64 l.length) ∧ w' = w := by
  obtain ⟨a, cap, hv, _⟩ := h.slice
  have c1 : w.cell? ⟨g, 1, none⟩ = some (.slice a l.length cap) := by rw [cell_of_block h.1, hv]; rfl
  clear h hv
  go_enter Try.func19, Try.ntmps19
  go_wp2
  go_ret
  exact ⟨rfl, rfl⟩
set_option maxHeartbeats 400000 in
theorem werr_any (w : World) (g : Nat) (v : Value) (lim : Int) (l : List Int) (e : Int) (h : Wr w g v lim l e) :
    Calls Try.prog 26 #[.pointer (some ⟨g, 0, none⟩)] w fun E w' => E = .returned (.int .i64 e) ∧ w' = w := by
  have c2 : w.cell? ⟨g, 2, none⟩ = some (.int .i64 e) := by rw [cell_of_block h.1]; rfl
  clear h
  go_enter Try.func26, Try.ntmps26
  go_wp2
  go_ret
  exact ⟨rfl, rfl⟩
def wrOut (l : List Int) (e : Int) : List Int := if e = 0 then l else []
/-- What Out did. -/
def Told (w : World) (l : List Int) (e : Int) (E : Ending) (w' : World) : Prop :=
  ∃ v, E = .returned (.tuple #[v, .int .i64 e]) ∧ Owns w' v l ∧ New w.heap.size v ∧ Away [] w w'
set_option maxHeartbeats 400000 in
theorem out_any (w : World) (g : Nat) (v : Value) (lim : Int) (l : List Int) (e : Int) (h : Wr w g v lim l e) :
    Calls Try.prog 18 #[.pointer (some ⟨g, 0, none⟩)] w fun E w' => Told w (wrOut l e) e E w' := by
  obtain ⟨a, cap, hv, hcap, hnone, hrow, hat⟩ := h.slice
  have c1 : w.cell? ⟨g, 1, none⟩ = some (.slice a l.length cap) := by rw [cell_of_block h.1, hv]; rfl
  have c2 : w.cell? ⟨g, 2, none⟩ = some (.int .i64 e) := by rw [cell_of_block h.1]; rfl
  clear h hv
  by_cases he : e = 0
  · subst he
    have e1 : wrOut l 0 = l := by unfold wrOut; rw [if_pos rfl]
    rw [e1]
    clear e1
    go_enter Try.func18, Try.ntmps18
    go_wp2_with fail
    refine (clone_any a l cap _ hnone (by exact hrow)).mono ?_
    rintro E w2 ⟨v, rfl, hown, hnew, haw2⟩
    go_wp2_with fail
    go_ret2
    exact ⟨v, rfl, hown, hnew, haw2⟩
  · have e1 : wrOut l e = [] := by unfold wrOut; rw [if_neg he]
    rw [e1]
    clear e1
    have b1 : (e == 0) = false := by simp [he]
    have b2 : (e != 0) = true := by simp [he]
    go_enter Try.func18, Try.ntmps18
    go_wp2_with fail
    go_quiet (fail)
    go_wp2_with fail
    go_ret2
    exact ⟨_, rfl, Owns.nil _, by simp [New, Value.ownBlock], (Away.refl [] w).drewN _⟩
def limOf (n : Int) : Int := if n < 0 then 0 else if n ≤ 65575 then n else 65575
/-- What NewWriter did. -/
def Began (w : World) (lim : Int) (E : Ending) (w' : World) : Prop :=
  ∃ g v, E = .returned (.pointer (some ⟨g, 0, none⟩)) ∧ Wr w' g v lim [] 0 ∧ w.heap.size ≤ g ∧ v.ownBlock = none ∧ Away [] w w'
set_option maxHeartbeats 400000 in
theorem newWriter_any (n : Int) (w : World) (h1 : -9223372036854775808 ≤ n) (h2 : n ≤ 9223372036854775807) :
    Calls Try.prog 15 #[.int .i64 n] w fun E w' => Began w (limOf n) E w' := by
  have fin : ∀ lim : Int, 0 ≤ lim → lim ≤ 65575 → Began w lim (.returned (.pointer (some ⟨w.heap.size, 0, none⟩))) (w.alloc (.cells #[.int .i64 lim, .slice none 0 0, .int .i64 0] 79)) := by
    intro lim h0 h1
    exact ⟨w.heap.size, _, rfl, ⟨block_new _ _, Owns.nil _, by simp [Value.ownBlock], Bytes.nil, by simpa using h0, h1⟩, Nat.le_refl _, rfl, (Away.refl [] w).alloc _⟩
  have FIN : Hid (∀ lim : Int, 0 ≤ lim → lim ≤ 65575 → Began w lim (.returned (.pointer (some ⟨w.heap.size, 0, none⟩))) (w.alloc (.cells #[.int .i64 lim, .slice none 0 0, .int .i64 0] 79))) := fin
  clear fin
  by_cases hneg : n < 0
  · rw [show limOf n = 0 from by unfold limOf; rw [if_pos hneg]]
    go_enter Try.func15, Try.ntmps15
    go_wp2
    go_ret
    exact FIN.out 0 (by omega) (by omega)
  · by_cases hbig : n ≤ 65575
    · rw [show limOf n = n from by unfold limOf; rw [if_neg hneg, if_pos hbig]]
      go_enter Try.func15, Try.ntmps15
      go_wp2
      go_ret
      exact FIN.out n (by omega) (by omega)
    · rw [show limOf n = 65575 from by unfold limOf; rw [if_neg hneg, if_neg hbig]]
      go_enter Try.func15, Try.ntmps15
      go_wp2
      go_ret
      exact FIN.out 65575 (by omega) (by omega)
#print axioms newWriter_any
end Go.Proofs.Ytaiomhhndckccaa
