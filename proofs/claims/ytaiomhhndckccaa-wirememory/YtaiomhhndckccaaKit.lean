/-
  What every row's step shares.
-/
import Derived.Test.YtaiomhhndckccaaAlive
namespace Go.Proofs.Ytaiomhhndckccaa
open Go.ChangeShapes Go.WideShapes Go.ChangeAt Go.RowKit
set_option linter.unusedVariables false

theorem ownKn : ownKnob Try.prog.godebug = none := by kernel_rfl
theorem laidOut : laidOutB Try.prog = true := by kernel_rfl

def kindBytes : IntKind → Nat
  | .u8 => 1
  | .u16 => 2
  | _ => 8

/-- A slice of integers that came in: nil, or a row of 'cap' cells. -/
def IsRow (k : IntKind) (w : World) (a : Option Addr) (len cap : Nat) (zs : List Int) : Prop :=
  (a = none ∧ len = 0 ∧ cap = 0 ∧ zs = []) ∨
  ∃ x, a = some x ∧ len ≤ cap ∧ cap * kindBytes k ≤ 140737488351232 ∧ zs.length = cap ∧ (∀ i, i < zs.length → w.cell? (x.add i) = some (.int k (zs.getD i 0))) ∧ ∀ n ∈ zs, (Lit.int k n).wf = true

/-- Of bytes: their list. -/
theorem view {w : World} {a : Option Addr} {len cap : Nat} {zs : List Int} (h : IsRow .u8 w a len cap zs) :
    ∃ l : List Int, l.length = len ∧ len ≤ cap ∧ cap ≤ 140737488351232 ∧ Row w a l ∧ (a = none → cap = 0) := by
  rcases h with ⟨rfl, rfl, rfl, rfl⟩ | ⟨x, rfl, hl, hm, hz, hcell, hwz⟩
  · exact ⟨[], rfl, Nat.le_refl _, by omega, Row.nil _ _, fun _ => rfl⟩
  · simp only [kindBytes] at hm
    refine ⟨zs.take len, by simp; omega, hl, by omega, ⟨by simp; omega, fun n hn => bounds_u8 (hwz n (List.mem_of_mem_take hn)), ?_⟩, by simp⟩
    by_cases h0 : len = 0
    · left; subst h0; simp
    · right
      obtain ⟨b, off, spot⟩ := x
      have hspot : spot = none := by simpa [Addr.add] using World.cell?_spot (hcell 0 (by omega))
      subst hspot
      refine ⟨b, off, rfl, fun i hi => ?_⟩
      have hi' : i < len := by simp at hi; omega
      have := hcell i (by omega)
      rw [add_plain] at this
      rw [List.getElem?_take, if_pos hi']
      simpa using this
theorem rd2 (x y : Int) (r : List Int) : rdOut (x :: y :: r) 0 2 = [x, y] ∧ rdRest (x :: y :: r) 0 2 = r ∧ rdErr (x :: y :: r) 0 2 = 0 ∧ num (rdOut (x :: y :: r) 0 2) = 256 * x + y := by
  have h1 : (2 : Int) ≤ ((x :: y :: r).length : Int) := by simp; omega
  have e : rdOut (x :: y :: r) 0 2 = [x, y] := by unfold rdOut; rw [if_pos ⟨rfl, by omega, h1⟩]; rfl
  refine ⟨e, ?_, ?_, ?_⟩
  · unfold rdRest; rw [if_pos ⟨rfl, by omega, h1⟩]; rfl
  · unfold rdErr; rw [if_pos rfl, if_neg (by omega), if_pos h1]
  · rw [e]; simp [num]
theorem rd4 (x y z u : Int) (r : List Int) : rdOut (x :: y :: z :: u :: r) 0 4 = [x, y, z, u] ∧ rdRest (x :: y :: z :: u :: r) 0 4 = r ∧ rdErr (x :: y :: z :: u :: r) 0 4 = 0 ∧ num (rdOut (x :: y :: z :: u :: r) 0 4) = 65536 * (256 * x + y) + (256 * z + u) := by
  have h1 : (4 : Int) ≤ ((x :: y :: z :: u :: r).length : Int) := by simp; omega
  have e : rdOut (x :: y :: z :: u :: r) 0 4 = [x, y, z, u] := by unfold rdOut; rw [if_pos ⟨rfl, by omega, h1⟩]; rfl
  refine ⟨e, ?_, ?_, ?_⟩
  · unfold rdRest; rw [if_pos ⟨rfl, by omega, h1⟩]; rfl
  · unfold rdErr; rw [if_pos rfl, if_neg (by omega), if_pos h1]
  · rw [e]; simp [num]; omega
theorem four_of {l : List Int} (h : 4 ≤ l.length) : ∃ x y z u r, l = x :: y :: z :: u :: r := by
  match l, h with
  | x :: y :: z :: u :: r, _ => exact ⟨x, y, z, u, r, rfl⟩
theorem Away.undrew {S : List Nat} {w w' : World} (h : Away S w.drew w') : Away S w w' := ⟨h.os, h.tape, h.output, h.size, h.block⟩
theorem Away.undrewN {S : List Nat} {w w' : World} {n : Nat} (h : Away S (w.drewN n) w') : Away S w w' := ⟨h.os, h.tape, h.output, h.size, h.block⟩
theorem u64_wrap (z : Int) (h0 : 0 ≤ z) (h1 : z < 18446744073709551616) : IntKind.u64.wrap z = z := by
  simp [IntKind.wrap, IntKind.bits, IntKind.signed]; omega
end Go.Proofs.Ytaiomhhndckccaa
