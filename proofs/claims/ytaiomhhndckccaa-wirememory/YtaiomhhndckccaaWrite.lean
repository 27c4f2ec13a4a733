/-
  The contracts of wire's Writer.
-/
import Derived.Test.YtaiomhhndckccaaRead
namespace Go.Proofs.Ytaiomhhndckccaa
open Go.ChangeShapes Go.WideShapes Go.ChangeAt Go.RowKit
set_option linter.unusedVariables false

/-- A writer at block g, its bytes in v: the limit, what was written, the error. -/
def Wr (w : World) (g : Nat) (v : Value) (lim : Int) (l : List Int) (e : Int) : Prop :=
  w.heap[g]? = some (.cells #[.int .i64 lim, v, .int .i64 e] 79 (0, 0)) ∧ Owns w v l ∧ (∀ k, v.ownBlock = some k → k ≠ g) ∧ Bytes l ∧ (l.length : Int) ≤ lim ∧ lim ≤ 65575
theorem Wr.away {S : List Nat} {w w' : World} {g : Nat} {v : Value} {lim : Int} {l : List Int} {e : Int} (h : Wr w g v lim l e) (hw : Away S w w') (hg : g ∉ S) (hv : ∀ k, v.ownBlock = some k → k ∉ S) : Wr w' g v lim l e := by
  obtain ⟨h1, h2, h3, h4, h5, h6⟩ := h
  exact ⟨hw.keep hg h1, h2.away hw hv, h3, h4, h5, h6⟩
theorem Wr.lt {w : World} {g : Nat} {v : Value} {lim : Int} {l : List Int} {e : Int} (h : Wr w g v lim l e) : g < w.heap.size ∧ ∀ k, v.ownBlock = some k → k < w.heap.size := ⟨lt_of_block h.1, h.2.1.lt⟩
theorem Wr.drewN {w : World} {g : Nat} {v : Value} {lim : Int} {l : List Int} {e : Int} (h : Wr w g v lim l e) (n : Nat) : Wr (w.drewN n) g v lim l e := h
theorem Wr.len {w : World} {g : Nat} {v : Value} {lim : Int} {l : List Int} {e : Int} (h : Wr w g v lim l e) : l.length ≤ 65575 := by have := h.2.2.2.2; omega
theorem Wr.slice {w : World} {g : Nat} {v : Value} {lim : Int} {l : List Int} {e : Int} (h : Wr w g v lim l e) : ∃ a cap, v = .slice a l.length cap ∧ l.length ≤ cap ∧ (a = none → cap = 0) ∧ Row w a l ∧ ∀ x, a = some x → x.spot = none ∧ x.off = 0 := by
  obtain ⟨a, cap, h1, h2, h3, h4, h5, h6⟩ := h.2.1.row (by have := h.len; omega) h.2.2.2.1
  exact ⟨a, cap, h1, h2, h3, h4, h6⟩

def wrAll (l : List Int) (e lim : Int) (m : List Int) : List Int := if e = 0 ∧ (l.length : Int) + m.length ≤ lim then l ++ m else l
def wrErr (l : List Int) (e lim : Int) (n : Int) : Int := if e = 0 then if (l.length : Int) + n ≤ lim then 0 else 3 else e

def fp (g : Nat) (v : Value) : List Nat := g :: v.ownBlock.toList
theorem fp_own {g k : Nat} {v : Value} (h : v.ownBlock = some k) : k ∈ fp g v := by simp [fp, h]
theorem fp_self (g : Nat) (v : Value) : g ∈ fp g v := by simp [fp]

def Roomed (w : World) (g : Nat) (v : Value) (lim : Int) (l : List Int) (e : Int) (b : Bool) (E : Ending) (w' : World) : Prop := E = .returned (.bool b) ∧ Wr w' g v lim l e ∧ Away [g] w w'
set_option maxHeartbeats 400000 in
theorem room_yes (w : World) (g : Nat) (v : Value) (lim : Int) (l : List Int) (n : Int) (hn : 0 ≤ n) (hn' : n ≤ 140737488355328) (h : Wr w g v lim l 0) (hfit : (l.length : Int) + n ≤ lim) :
    Calls Try.prog 40 #[.pointer (some ⟨g, 0, none⟩), .int .i64 n] w fun E w' => E = .returned (.bool true) ∧ ∃ n, w' = w.drewN n := by
  obtain ⟨a, cap, hv, hcap, hnone, hrow, _⟩ := h.slice
  obtain ⟨hb, hown, hne, hby, hll, hlim⟩ := h
  have c0 : w.cell? ⟨g, 0, none⟩ = some (.int .i64 lim) := by rw [cell_of_block hb]; rfl
  have c1 : w.cell? ⟨g, 1, none⟩ = some (.slice a l.length cap) := by rw [cell_of_block hb, ← hv]; rfl
  have c2 : w.cell? ⟨g, 2, none⟩ = some (.int .i64 0) := by rw [cell_of_block hb]; rfl
  clear hb hv hrow hown hne
  go_enter Try.func40, Try.ntmps40
  go_wp2_with fail
  go_quiet (fail)
  go_wp2_with fail
  go_ret
  exact ⟨rfl, _, rfl⟩
set_option maxHeartbeats 400000 in
theorem room_no (w : World) (g : Nat) (v : Value) (lim : Int) (l : List Int) (e n : Int) (hn : 0 ≤ n) (hn' : n ≤ 140737488355328) (h : Wr w g v lim l e) (hfit : ¬ (e = 0 ∧ (l.length : Int) + n ≤ lim)) :
    Calls Try.prog 40 #[.pointer (some ⟨g, 0, none⟩), .int .i64 n] w fun E w' => Roomed w g v lim l (wrErr l e lim n) false E w' := by
  obtain ⟨a, cap, hv, hcap, hnone, hrow, _⟩ := h.slice
  have h0 := h
  obtain ⟨hb, hown, hne, hby, hll, hlim⟩ := h
  have c0 : w.cell? ⟨g, 0, none⟩ = some (.int .i64 lim) := by rw [cell_of_block hb]; rfl
  have c1 : w.cell? ⟨g, 1, none⟩ = some (.slice a l.length cap) := by rw [cell_of_block hb, ← hv]; rfl
  have c2 : w.cell? ⟨g, 2, none⟩ = some (.int .i64 e) := by rw [cell_of_block hb]; rfl
  have f2 := free_of_block hb 2
  have HB : Hid (w.heap[g]? = some (.cells #[.int .i64 lim, v, .int .i64 e] 79 (0, 0))) := hb
  have HV : Hid (v = .slice a l.length cap) := hv
  clear hb hv hrow
  by_cases he : e = 0
  · subst he
    have e1 : wrErr l 0 lim n = 3 := by unfold wrErr; rw [if_pos rfl, if_neg (by omega)]
    rw [e1]
    clear e1
    have hgt : lim < (l.length : Int) + n := by omega
    go_enter Try.func40, Try.ntmps40
    go_wp2_with fail
    go_quiet (fail)
    go_wp2_with fail
    go_ret
    refine ⟨rfl, ?_, ?_⟩
    · refine ⟨?_, ?_, hne, hby, hll, hlim⟩
      · rw [block_set (w := w.drewN _) HB.out]; rfl
      · exact hown.away (S := [g]) (((Away.refl [g] w).drewN _).setCell (.inl (by simp)) _) (fun k hk => by simpa using hne k hk)
    · exact ((Away.refl [g] w).drewN _).setCell (.inl (by simp)) _
  · have e1 : wrErr l e lim n = e := by unfold wrErr; rw [if_neg he]
    rw [e1]
    clear e1
    have b1 : (e == 0) = false := by simp [he]
    have b2 : (e != 0) = true := by simp [he]
    go_enter Try.func40, Try.ntmps40
    go_wp2_with fail
    go_ret
    exact ⟨rfl, h0, Away.refl _ _⟩
end Go.Proofs.Ytaiomhhndckccaa
