/-
  Lists of bytes. Nothing of the program.
-/
import Derived.Test.YtbfpphoiapggnaaRows
namespace Go.Proofs.Ytbfpphoiapggnaa
set_option linter.unusedVariables false

/-- A list of bytes. -/
def Bytes (l : List Int) : Prop := ∀ n ∈ l, 0 ≤ n ∧ n ≤ 255
theorem Bytes.tail {a : Int} {l : List Int} (h : Bytes (a :: l)) : Bytes l := fun n hn => h n (List.mem_cons_of_mem _ hn)
theorem Bytes.head {a : Int} {l : List Int} (h : Bytes (a :: l)) : 0 ≤ a ∧ a ≤ 255 := h a List.mem_cons_self
theorem Bytes.take {l : List Int} (h : Bytes l) (k : Nat) : Bytes (l.take k) := fun n hn => h n (List.mem_of_mem_take hn)
theorem Bytes.drop {l : List Int} (h : Bytes l) (k : Nat) : Bytes (l.drop k) := fun n hn => h n (List.mem_of_mem_drop hn)
theorem Bytes.app {l m : List Int} (h : Bytes l) (k : Bytes m) : Bytes (l ++ m) := fun n hn => (List.mem_append.mp hn).elim (h n) (k n)
theorem Bytes.nil : Bytes [] := fun n hn => by simp at hn
theorem Bytes.cons {a : Int} {l : List Int} (h : Bytes l) (ha : 0 ≤ a) (ha' : a ≤ 255) : Bytes (a :: l) := fun n hn => by
  rcases List.mem_cons.mp hn with rfl | hn
  · exact ⟨ha, ha'⟩
  · exact h n hn
theorem Bytes.zeros (k : Nat) : Bytes (List.replicate k 0) := fun n hn => by rw [List.eq_of_mem_replicate hn]; omega
theorem Bytes.getD {l : List Int} (h : Bytes l) (k : Nat) : 0 ≤ l[k]?.getD 0 ∧ l[k]?.getD 0 ≤ 255 := by
  rcases Nat.lt_or_ge k l.length with hk | hk
  · rw [List.getElem?_eq_getElem hk]; exact h _ (List.getElem_mem hk)
  · rw [List.getElem?_eq_none hk]; simp

theorem Bytes.set {l : List Int} (h : Bytes l) (k : Nat) {a : Int} (ha : 0 ≤ a) (ha' : a ≤ 255) : Bytes (l.set k a) := fun n hn => by
  rcases List.mem_or_eq_of_mem_set hn with hn | rfl
  · exact h n hn
  · exact ⟨ha, ha'⟩
namespace Num
/-- The number that bytes make, the highest first. -/
def num (l : List Int) : Int := l.foldl (fun v x => 256 * v + x) 0
end Num
end Go.Proofs.Ytbfpphoiapggnaa
