/-
  The contracts of the document's writer: numbers.
-/
import Derived.Test.YtaiomhhndckccaaMWrite
import Derived.Deep.OwnRows
namespace Go.Proofs.Ytaiomhhndckccaa
open Go.ChangeShapes Go.WideShapes Go.ChangeAt Go.RowKit
set_option linter.unusedVariables false

theorem MWrote.from {w w1 w2 : World} {g : Nat} {v : Value} {lim : Int} {l : List Int} {e : Int} {E : Ending} (h0 : Away [] w w1) (h : MWrote w1 g v lim l e E w2) : MWrote w g v lim l e E w2 := by
  obtain ⟨hE, v', h1, h2, h3⟩ := h
  have hs := h0.size
  refine ⟨hE, v', h1, fun j hj => ?_, (h0.mono (by simp)).next h3 (fun x hx => .inl hx)⟩
  rcases h2 j hj with h | h
  · exact .inl h
  · right; omega

theorem make1 (w : World) : (Instr.makeSlice 22 (.int .i64 1) (.int .i64 1)).run Try.prog w = .ok (.slice (some ⟨w.heap.size, 0, none⟩) 1 1) (w.alloc (.cells #[.int .u8 0] 5)) := by
  have h := run_make_row' (P := Try.prog) 22 5 (.int .u8 0) 1 Try.underlying22 info5 rfl .i64 .i64 1 (by decide) (by decide) w
  have e : madeCells #[(.int .u8 0 : Value)] 1 = #[.int .u8 0] := by apply Array.ext'; rw [toList_madeCells_one]; rfl
  rw [e] at h
  exact h
set_option maxHeartbeats 1000000 in
theorem mnum1_any (w : World) (g : Nat) (v : Value) (lim : Int) (l : List Int) (e x : Int) (h : Mw w g v lim l e) (hx : 0 ≤ x) (hx' : x ≤ 255) :
    Calls Try.prog 46 #[.pointer (some ⟨g, 0, none⟩), .int .u64 x, .int .i64 1] w fun E w' => MWrote w g v lim (wrAll l e lim [x]) (wrErr l e lim 1) E w' := by
  have hmk := make1
  have hA : Away [] w (w.alloc (.cells #[.int .u8 (x)] 5)) := (Away.refl [] w).alloc _
  have hM := h.away hA (by simp) (by simp)
  have hR := Row.lit w [x] ((Bytes.nil.cons (by omega) (by omega))) (by simp)
  have KEY := mwbytes_any _ g v lim l e (some ⟨w.heap.size, 0, none⟩) [x] 1 1 hM rfl (by simp) hR
  rw [show (([x] : List Int).length : Int) = 1 from rfl] at KEY
  generalize wrAll l e lim [x] = l' at *
  generalize wrErr l e lim 1 = e' at *
  clear h hM hR
  have r1 : x % 256 = x := by omega
  go_enter Try.func46, Try.ntmps46
  go_wp2_with fail
  refine wp_loop_rounds 2 ?_
  rw [rounds_succ]
  go_wp2_with fail
  rw [rounds_succ]
  go_wp2_with fail
  refine KEY.mono ?_
  intro E w2 hq
  have hE := hq.1
  subst hE
  clear KEY
  go_wp2_with fail
  go_end0
  exact MWrote.from hA hq

theorem make2 (w : World) : (Instr.makeSlice 22 (.int .i64 2) (.int .i64 2)).run Try.prog w = .ok (.slice (some ⟨w.heap.size, 0, none⟩) 2 2) (w.alloc (.cells #[.int .u8 0, .int .u8 0] 5)) := by
  have h := run_make_row' (P := Try.prog) 22 5 (.int .u8 0) 1 Try.underlying22 info5 rfl .i64 .i64 2 (by decide) (by decide) w
  have e : madeCells #[(.int .u8 0 : Value)] 2 = #[.int .u8 0, .int .u8 0] := by apply Array.ext'; rw [toList_madeCells_one]; rfl
  rw [e] at h
  exact h
set_option maxHeartbeats 1000000 in
theorem mnum2_any (w : World) (g : Nat) (v : Value) (lim : Int) (l : List Int) (e x : Int) (h : Mw w g v lim l e) (hx : 0 ≤ x) (hx' : x ≤ 65535) :
    Calls Try.prog 46 #[.pointer (some ⟨g, 0, none⟩), .int .u64 x, .int .i64 2] w fun E w' => MWrote w g v lim (wrAll l e lim [x / 256, x % 256]) (wrErr l e lim 2) E w' := by
  have hmk := make2
  have hA : Away [] w (w.alloc (.cells #[.int .u8 (x / 256), .int .u8 (x % 256)] 5)) := (Away.refl [] w).alloc _
  have hM := h.away hA (by simp) (by simp)
  have hR := Row.lit w [x / 256, x % 256] (((Bytes.nil.cons (by omega) (by omega)).cons (by omega) (by omega))) (by simp)
  have KEY := mwbytes_any _ g v lim l e (some ⟨w.heap.size, 0, none⟩) [x / 256, x % 256] 2 2 hM rfl (by simp) hR
  rw [show (([x / 256, x % 256] : List Int).length : Int) = 2 from rfl] at KEY
  generalize wrAll l e lim [x / 256, x % 256] = l' at *
  generalize wrErr l e lim 2 = e' at *
  clear h hM hR
  have r1 : x / 256 % 256 = x / 256 := by omega
  go_enter Try.func46, Try.ntmps46
  go_wp2_with fail
  refine wp_loop_rounds 3 ?_
  rw [rounds_succ]
  go_wp2_with fail
  rw [rounds_succ]
  go_wp2_with fail
  rw [rounds_succ]
  go_wp2_with fail
  refine KEY.mono ?_
  intro E w2 hq
  have hE := hq.1
  subst hE
  clear KEY
  go_wp2_with fail
  go_end0
  exact MWrote.from hA hq

theorem make4 (w : World) : (Instr.makeSlice 22 (.int .i64 4) (.int .i64 4)).run Try.prog w = .ok (.slice (some ⟨w.heap.size, 0, none⟩) 4 4) (w.alloc (.cells #[.int .u8 0, .int .u8 0, .int .u8 0, .int .u8 0] 5)) := by
  have h := run_make_row' (P := Try.prog) 22 5 (.int .u8 0) 1 Try.underlying22 info5 rfl .i64 .i64 4 (by decide) (by decide) w
  have e : madeCells #[(.int .u8 0 : Value)] 4 = #[.int .u8 0, .int .u8 0, .int .u8 0, .int .u8 0] := by apply Array.ext'; rw [toList_madeCells_one]; rfl
  rw [e] at h
  exact h
set_option maxHeartbeats 1000000 in
theorem mnum4_any (w : World) (g : Nat) (v : Value) (lim : Int) (l : List Int) (e x : Int) (h : Mw w g v lim l e) (hx : 0 ≤ x) (hx' : x ≤ 4294967295) :
    Calls Try.prog 46 #[.pointer (some ⟨g, 0, none⟩), .int .u64 x, .int .i64 4] w fun E w' => MWrote w g v lim (wrAll l e lim [x / 16777216, x / 65536 % 256, x / 256 % 256, x % 256]) (wrErr l e lim 4) E w' := by
  have hmk := make4
  have hA : Away [] w (w.alloc (.cells #[.int .u8 (x / 16777216), .int .u8 (x / 65536 % 256), .int .u8 (x / 256 % 256), .int .u8 (x % 256)] 5)) := (Away.refl [] w).alloc _
  have hM := h.away hA (by simp) (by simp)
  have hR := Row.lit w [x / 16777216, x / 65536 % 256, x / 256 % 256, x % 256] (((((Bytes.nil.cons (by omega) (by omega)).cons (by omega) (by omega)).cons (by omega) (by omega)).cons (by omega) (by omega))) (by simp)
  have KEY := mwbytes_any _ g v lim l e (some ⟨w.heap.size, 0, none⟩) [x / 16777216, x / 65536 % 256, x / 256 % 256, x % 256] 4 4 hM rfl (by simp) hR
  rw [show (([x / 16777216, x / 65536 % 256, x / 256 % 256, x % 256] : List Int).length : Int) = 4 from rfl] at KEY
  generalize wrAll l e lim [x / 16777216, x / 65536 % 256, x / 256 % 256, x % 256] = l' at *
  generalize wrErr l e lim 4 = e' at *
  clear h hM hR
  have r1 : x / 256 / 256 = x / 65536 := by omega
  have r2 : x / 65536 / 256 = x / 16777216 := by omega
  have r3 : x / 16777216 % 256 = x / 16777216 := by omega
  go_enter Try.func46, Try.ntmps46
  go_wp2_with fail
  refine wp_loop_rounds 5 ?_
  rw [rounds_succ]
  go_wp2_with fail
  rw [rounds_succ]
  go_wp2_with fail
  rw [rounds_succ]
  go_wp2_with fail
  rw [rounds_succ]
  go_wp2_with fail
  rw [rounds_succ]
  go_wp2_with fail
  refine KEY.mono ?_
  intro E w2 hq
  have hE := hq.1
  subst hE
  clear KEY
  go_wp2_with fail
  go_end0
  exact MWrote.from hA hq
#print axioms mnum4_any
end Go.Proofs.Ytaiomhhndckccaa
