/-
  What every row's step shares.
-/
import Derived.Test.YtbjnhjdbnliofabRows
import Derived.Test.YtbjnhjdbnliofabPart
import Derived.ProofKit
import Derived.ShutString
import Derived.ChangeOld
import Derived.Below
import Derived.SizedLaws
namespace Go.Proofs.Ytbjnhjdbnliofab
open Go.ChangeShapes Go.WideShapes Go.ChangeAt Go.RowKit Num
set_option linter.unusedVariables false

theorem ownKn : ownKnob Try.prog.godebug = none := by kernel_rfl
theorem laidOut : laidOutB Try.prog = true := by kernel_rfl

def kindBytes : IntKind → Nat
  | .u8 => 1
  | .u16 => 2
  | _ => 8

/-- A slice of integers that came in: nil, or a row of 'cap' cells. -/
def IsRow (k : IntKind) (w : World) (a : Option Addr) (len cap : Nat) (zs : List Int) : Prop :=
  (a = none ∧ len = 0 ∧ cap = 0 ∧ zs = []) ∨
  ∃ x, a = some x ∧ len ≤ cap ∧ cap * kindBytes k ≤ 140737488351232 ∧ zs.length = cap ∧ (∀ i, i < zs.length → w.cell? (x.add i) = some (.int k (zs.getD i 0))) ∧ ∀ n ∈ zs, (Lit.int k n).wf = true

/-- Of bytes: their list. -/
theorem view {w : World} {a : Option Addr} {len cap : Nat} {zs : List Int} (h : IsRow .u8 w a len cap zs) :
    ∃ l : List Int, l.length = len ∧ len ≤ cap ∧ cap ≤ 140737488351232 ∧ Row w a l := by
  rcases h with ⟨rfl, rfl, rfl, rfl⟩ | ⟨x, rfl, hl, hm, hz, hcell, hwz⟩
  · exact ⟨[], rfl, Nat.le_refl _, by omega, by simp, Bytes.nil, .inl rfl⟩
  · simp only [kindBytes] at hm
    refine ⟨zs.take len, by simp; omega, hl, by omega, by simp; omega, fun n hn => bounds_u8 (hwz n (List.mem_of_mem_take hn)), ?_⟩
    by_cases h0 : len = 0
    · left; subst h0; simp
    · right
      obtain ⟨b, off, spot⟩ := x
      have hspot : spot = none := by simpa [Addr.add] using World.cell?_spot (hcell 0 (by omega))
      subst hspot
      refine ⟨b, off, rfl, fun i hi => ?_⟩
      have hi' : i < len := by simp at hi; omega
      have := hcell i (by omega)
      rw [add_plain] at this
      rw [List.getElem?_take, if_pos hi']
      simpa using this
theorem part_at (a : Option Addr) (l : List Int) (len cap : Nat) (w : World) (hl : l.length = len) (hcap : len ≤ cap) (hr : Row w a l) :
    Calls Try.prog 5 #[.slice a len cap] w fun e w' => e = .returned (.int .u16 (pt l)) ∧ ∃ n, w' = w.drewN n := by
  subst hl; exact part_any a l cap hcap w hr
theorem of_at (a : Option Addr) (l : List Int) (len cap : Nat) (w : World) (hl : l.length = len) (hcap : len ≤ cap) (hr : Row w a l) :
    Calls Try.prog 7 #[.slice a len cap] w fun e w' => e = .returned (.int .u16 (65535 - pt l)) ∧ ∃ n, w' = w.drewN n := by
  subst hl; exact of_any a l cap hcap w hr
end Go.Proofs.Ytbjnhjdbnliofab
