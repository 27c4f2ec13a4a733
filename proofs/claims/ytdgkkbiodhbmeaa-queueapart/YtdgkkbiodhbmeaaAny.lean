/-
  Steps whose answers do not matter; the script once more.
-/
import Derived.Test.YtdgkkbiodhbmeaaTak
import Derived.Test.YtdgkkbiodhbmeaaKBO
namespace Go.Proofs.Ytdgkkbiodhbmeaa
open Go.ChangeShapes Go.WideShapes Go.ChangeAt Go.RowKit Go.Deep
set_option linter.unusedVariables false
set_option linter.unusedSimpArgs false
set_option maxRecDepth 100000

theorem RowC.at2 {o : Nat → Nat} {w : World} {b off : Nat} {l : List Op2} (h : RowC o w (some ⟨b, off, none⟩) l) {k : Nat} {x : Op2} (hk : l[k]? = some x) : w.cell? ⟨b, off + k * 2, none⟩ = some (.bool x.p) ∧ w.cell? ⟨b, off + k * 2 + 1, none⟩ = some (.int .i64 x.x) := by
  obtain ⟨b', off', he, c1, c2, -⟩ := h.at hk
  simp only [Option.some.injEq, Addr.mk.injEq, and_true] at he
  obtain ⟨rfl, rfl⟩ := he
  exact ⟨c1, c2⟩
theorem KI.push9_any {o : Nat → Nat} {k : Nat} {w : World} {g : Nat} {c b : Int} {L : List Th} (a0 : Int) (h : KI.Ow o k w g c b 9 L) (h1 : a0 ≤ 9223372036854775807) :
    Calls Try.prog 16 #[.pointer (some ⟨g, 0, none⟩), .int .i64 a0] w fun E w' => ∃ r L', E = .returned (.bool r) ∧ KI.Ow (give o w k) k w' g c b 9 L' ∧ Chg o k w w' := by
  refine (KI.push9_o a0 _ h h1 rfl).mono ?_
  rintro E w' ⟨rfl, h2, h3⟩
  exact ⟨_, _, rfl, h2, h3⟩
theorem KI.pop_any {o : Nat → Nat} {k : Nat} {w : World} {g : Nat} {c b : Int} {L : List Th} (h : KI.Ow o k w g c b 9 L) :
    Calls Try.prog 15 #[.pointer (some ⟨g, 0, none⟩)] w fun E w' => ∃ x L', E = .returned x ∧ KI.Ow (give o w k) k w' g c b 9 L' ∧ Chg o k w w' := by
  rcases L with _ | ⟨y, Lr⟩
  · refine (KI.pop_n h).mono ?_
    rintro E w' ⟨rfl, h2, h3⟩
    exact ⟨_, _, rfl, h2, h3⟩
  · obtain ⟨a0, ha0⟩ := h.shp y (by simp)
    obtain ⟨yx, yn⟩ := y
    simp only at ha0
    subst ha0
    refine (KI.pop_s a0 yn h).mono ?_
    rintro E w' ⟨rfl, h2, h3⟩
    exact ⟨_, _, rfl, h2, h3⟩
theorem KB.push24_any {o : Nat → Nat} {k : Nat} {w : World} {g : Nat} {c b : Int} {L : List Th} (a0 : Option Addr) (n0 c0 : Nat) (h : KB.Ow o k w g c b 24 L) (h1 : n0 ≤ 9223372036854775807) :
    Calls Try.prog 25 #[.pointer (some ⟨g, 0, none⟩), .slice a0 n0 c0] w fun E w' => ∃ r L', E = .returned (.bool r) ∧ KB.Ow (give o w k) k w' g c b 24 L' ∧ Chg o k w w' := by
  refine (KB.push24_o a0 n0 c0 _ h h1 rfl).mono ?_
  rintro E w' ⟨rfl, h2, h3⟩
  exact ⟨_, _, rfl, h2, h3⟩
theorem KB.pop_any {o : Nat → Nat} {k : Nat} {w : World} {g : Nat} {c b : Int} {L : List Th} (h : KB.Ow o k w g c b 24 L) :
    Calls Try.prog 26 #[.pointer (some ⟨g, 0, none⟩)] w fun E w' => ∃ x L', E = .returned x ∧ KB.Ow (give o w k) k w' g c b 24 L' ∧ Chg o k w w' := by
  rcases L with _ | ⟨y, Lr⟩
  · refine (KB.pop_n h).mono ?_
    rintro E w' ⟨rfl, h2, h3⟩
    exact ⟨_, _, rfl, h2, h3⟩
  · obtain ⟨a0, n0, c0, ha0⟩ := h.shp y (by simp)
    obtain ⟨yx, yn⟩ := y
    simp only at ha0
    subst ha0
    refine (KB.pop_s a0 n0 c0 yn h).mono ?_
    rintro E w' ⟨rfl, h2, h3⟩
    exact ⟨_, _, rfl, h2, h3⟩
theorem info5 : (Try.prog.info? 5).map (fun i => (i.zero, i.size, i.bytes)) = some (some (.int .u8 0), 1, 1) := by kernel_rfl
def madeB (n : Nat) : Obj := .cells (madeCells (Value.int .u8 0).cells n) 5
theorem make_b (n : Nat) (N : Int) (hN : N = n) (hn : n ≤ 1000) (wx : World) :
    (Instr.makeSlice 30 (.int .i64 N) (.int .i64 N)).run Try.prog wx = .ok (.slice (some ⟨wx.heap.size, 0, none⟩) n n) (wx.alloc (madeB n)) := by
  subst hN
  obtain ⟨i0, hi, hz0, hz1, hz2⟩ := info_parts info5
  have := run_make (P := Try.prog) wx 30 5 i0 (.int .u8 0) Try.underlying30 hi hz0 .i64 .i64 n n (by omega) (by omega) (by rw [hz2]; omega) (by omega)
  rw [hz1] at this
  unfold madeB
  simpa using this
theorem rem_c (x : Int) : ∃ n : Nat, max 0 x % 100 = (n : Int) ∧ n < 100 := ⟨(max 0 x % 100).toNat, by omega, by omega⟩
end Go.Proofs.Ytdgkkbiodhbmeaa
