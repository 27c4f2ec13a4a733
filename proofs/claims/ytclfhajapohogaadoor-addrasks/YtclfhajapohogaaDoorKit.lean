/-
  What every row's step shares: the package variables, the addresses that came in, the witness.
-/
import Derived.Test.YtclfhajapohogaaDoorAlive
import Derived.Test.YtclfhajapohogaaDoorCards
import Derived.Test.YtclfhajapohogaaDoorTie
import Derived.Deep.DeepHandedRow
import Derived.Lib.LaidTab
import Derived.LaidSub
import Derived.ChangeOld
import Derived.Carry
namespace Go.Proofs.YtclfhajapohogaaDoor
open Go.ChangeShapes Go.WideShapes Go.ChangeAt Go.RowKit
set_option linter.unusedVariables false
set_option maxHeartbeats 4000000
set_option maxRecDepth 100000

theorem ownKn : ownKnob Tryd.prog.godebug = none := by kernel_rfl
theorem laidOut : laidOutB Tryd.prog = true := by kernel_rfl
def laidAll : List (String × DataW Unit) := [("math/bits.deBruijn32tab", Rows.laid_math_bits_deBruijn32tab), ("math/bits.deBruijn64tab", Rows.laid_math_bits_deBruijn64tab), ("internal/strconv.uint64pow10", Rows.laid_internal_strconv_uint64pow10)]
def bru64 : List Int := [0, 1, 56, 2, 57, 49, 28, 3, 61, 58, 42, 50, 38, 29, 17, 4, 62, 47, 59, 36, 45, 43, 51, 22, 53, 39, 33, 30, 24, 18, 12, 5, 63, 55, 48, 27, 60, 41, 37, 16, 46, 35, 44, 21, 52, 32, 23, 11, 54, 26, 40, 15, 34, 20, 31, 10, 25, 14, 19, 9, 13, 8, 7, 6]
def bru32 : List Int := [0, 1, 28, 2, 29, 14, 24, 3, 30, 22, 20, 15, 25, 17, 4, 8, 31, 27, 13, 23, 21, 19, 16, 7, 26, 12, 18, 6, 11, 5, 10, 9]
theorem glob_of {W : World} (hL : laidMet Tryd.prog laidAll W) (hS : W.ShapedOpen Tryd.prog) : Glob W := by
  have hL64 : laidMet Tryd.prog [("math/bits.deBruijn64tab", Rows.laid_math_bits_deBruijn64tab)] W := by
    have h := laidMet.filter (fun x => x.1 == "math/bits.deBruijn64tab") hL
    have e : laidAll.filter (fun x => x.1 == "math/bits.deBruijn64tab") = [("math/bits.deBruijn64tab", Rows.laid_math_bits_deBruijn64tab)] := by simp [laidAll]
    rwa [e] at h
  have hLp : laidMet Tryd.prog [("internal/strconv.uint64pow10", Rows.laid_internal_strconv_uint64pow10)] W := by
    have h := laidMet.filter (fun x => x.1 == "internal/strconv.uint64pow10") hL
    have e : laidAll.filter (fun x => x.1 == "internal/strconv.uint64pow10") = [("internal/strconv.uint64pow10", Rows.laid_internal_strconv_uint64pow10)] := by simp [laidAll]
    rwa [e] at h
  have t64 : Lib.TabIs Tryd.prog W "math/bits.deBruijn64tab" .u8 bru64 := Lib.tabIs_of_head (rest := []) (g := 3) (t := 119) (n := 64) (by kernel_rfl) (by kernel_rfl) Tryd.underlying119 Tryd.underlying5 cells5 (by kernel_rfl) hL64
  have tp : Lib.TabIs Tryd.prog W "internal/strconv.uint64pow10" .u64 Lib.pow10Tab := Lib.tabIs_of_head (rest := []) (g := 1) (t := 113) (n := 20) (by kernel_rfl) (by kernel_rfl) Tryd.underlying113 Tryd.underlying78 (by kernel_rfl) (by kernel_rfl) hLp
  have hc : W.cell? ⟨3, 15, none⟩ = some (.int .u8 4) := t64.cell (by kernel_rfl) 15 (by decide)
  have h4 := block_lt_of_cell hc
  refine ⟨?_, Tryd.laysM145.s1_3 W hS, tp, hc⟩
  exact h4
def nOf : Value → Int
  | .int _ n => n
  | _ => 0
theorem open_addr {H : Type} {enc : TypeId × Value → H} {W : World} {base base' : Nat} {spare : Nat → Bool} {held : Bool} {x : Value} {d : DataW H} {p : List MemPlace} (hv : Value.okWide Tryd.prog W .any base 24 x) (h : DataW.Trod enc Tryd.prog W base' spare held 24 x d p) :
    ∃ (v : Int) (l : List Int), x = .agg (csA v l) ∧ l.length = 16 ∧ (∀ y ∈ l, 0 ≤ y ∧ y ≤ 255) ∧ (Lit.int .i64 v).wf = true := by
  obtain ⟨cs, rfl, hsz⟩ := okWide_struct Tryd.underlying24 hv
  rw [cells24] at hsz
  obtain ⟨fuel, hf⟩ := h
  simp only [Value.cells] at hf
  obtain ⟨xs, n, _, _, hlen, hxs, hfs⟩ := DataW.trod_struct Tryd.underlying24 hf
  have h0 : DataW.trod enc Tryd.prog W base' spare held n 3 ((cs.toList.drop 0).take (Tryd.prog.cellsOf 3)) = xs[0]? := hfs 0 _ rfl
  have h1 : DataW.trod enc Tryd.prog W base' spare held n 22 ((cs.toList.drop 1).take (Tryd.prog.cellsOf 22)) = xs[1]? := hfs 1 _ rfl
  have hx2 : xs.length = 2 := by simpa using hxs
  rw [List.getElem?_eq_getElem (by omega)] at h0 h1
  obtain ⟨v, hv0, _, hvw⟩ := DataW.trod_int Tryd.underlying3 h0
  obtain ⟨ys, m, _, _, hl1, hys, hel⟩ := DataW.trod_array Tryd.underlying22 h1
  have hb : ∀ i, i < 16 → ∃ k : Int, cs.toList[1 + i]? = some (.int .u8 k) ∧ (Lit.int .u8 k).wf = true := by
    intro i hi
    have h2 := hel i hi
    rw [List.getElem?_eq_getElem (by omega)] at h2
    obtain ⟨k, hk, _, hkw⟩ := DataW.trod_int Tryd.underlying5 h2
    refine ⟨k, ?_, hkw⟩
    rw [cells5, Nat.mul_one] at hk
    have h3 : ((List.take (Tryd.prog.cellsOf 22) (List.drop 1 cs.toList)).drop i)[0]? = some (.int .u8 k) := by
      have := congrArg (fun l => l[0]?) hk
      simpa using this
    rw [cells22] at h3
    simp only [List.getElem?_drop, List.getElem?_take, Nat.add_zero] at h3
    rw [if_pos hi] at h3
    exact h3
  have hmap : ((cs.toList.drop 1).map nOf).map (Value.int .u8) = cs.toList.drop 1 := by
    rw [List.map_map]
    apply List.ext_getElem?
    intro i
    rw [List.getElem?_map, List.getElem?_drop]
    by_cases hi : i < 16
    · obtain ⟨k, hk, _⟩ := hb i hi
      rw [hk]; rfl
    · rw [List.getElem?_eq_none (by simp; omega)]; rfl
  refine ⟨v, (cs.toList.drop 1).map nOf, ?_, by simp; omega, ?_, hvw⟩
  · congr 1
    apply Array.ext'
    show cs.toList = Value.int .i64 v :: ((cs.toList.drop 1).map nOf).map (Value.int .u8)
    rw [hmap]
    have h3 : cs.toList[0]? = some (.int .i64 v) := by
      have := congrArg (fun l => l[0]?) hv0
      rw [show Tryd.prog.cellsOf 3 = 1 from by kernel_rfl] at this
      simpa using this
    cases hcs : cs.toList with
    | nil => rw [hcs] at h3; simp at h3
    | cons a r => rw [hcs] at h3; simp at h3; rw [h3]; rfl
  · intro y hy
    simp only [List.mem_map] at hy
    obtain ⟨z, hz, rfl⟩ := hy
    obtain ⟨i, hi⟩ := List.mem_iff_getElem?.1 hz
    rw [List.getElem?_drop] at hi
    have hi16 : i < 16 := by
      have := (List.getElem?_eq_some_iff.1 hi).1
      simp at this; omega
    obtain ⟨k, hk, hkw⟩ := hb i hi16
    rw [hk] at hi
    simp only [Option.some.injEq] at hi
    subst hi
    have h5 : IntKind.u8.min ≤ k ∧ k ≤ IntKind.u8.max := by simpa [Lit.wf] using hkw
    exact ⟨h5.1, h5.2⟩
/-- A world for the witness: the three tables as their initialisers lay them. -/
def setCs (cs : Array Value) : Obj → Obj
  | .cells _ t fr => .cells cs t fr
  | o => o
def u8s (l : List Int) : Array Value := (l.map (Value.int .u8)).toArray
def u64s (l : List Int) : Array Value := (l.map (Value.int .u64)).toArray
def laidWorld (P : Program) (os : Os) : World :=
  { World.holding P os ⟨#[], #[], []⟩ with heap := (((World.holding P os ⟨#[], #[], []⟩).heap.modify 1 (setCs (u64s Lib.pow10Tab))).modify 2 (setCs (u8s bru32))).modify 3 (setCs (u8s bru64)) }
end Go.Proofs.YtclfhajapohogaaDoor
