/-
  One's complement sums, in plain numbers: nothing of the program.
-/
import Derived.Test.YtkccpidgeecemaaGreatDoorNum
namespace Go.Proofs.YtkccpidgeecemaaGreatDoor
set_option linter.unusedVariables false
theorem Bytes.set {l : List Int} (h : Bytes l) (k : Nat) {a : Int} (ha : 0 ≤ a) (ha' : a ≤ 255) : Bytes (l.set k a) := fun n hn => by
  rcases List.mem_or_eq_of_mem_set hn with hn | rfl
  · exact h n hn
  · exact ⟨ha, ha'⟩
namespace Num

/-- The word that stands for a plain sum. -/
def fold (n : Int) : Int := if n = 0 then 0 else (n - 1) % 65535 + 1

theorem fold_bd {n : Int} (h : 0 ≤ n) : 0 ≤ fold n ∧ fold n ≤ 65535 := by unfold fold; split <;> omega
theorem fold_mod {n : Int} : fold n % 65535 = n % 65535 := by unfold fold; split <;> omega
theorem fold_zero {n : Int} : fold n = 0 ↔ n = 0 := by unfold fold; split <;> omega
theorem fold_uniq {x y : Int} (hx : 0 ≤ x) (hx' : x ≤ 65535) (hy : 0 ≤ y) (hy' : y ≤ 65535) (hm : x % 65535 = y % 65535) (hz : x = 0 ↔ y = 0) : x = y := by omega
theorem fold_congr {m n : Int} (hm : 0 ≤ m) (hn : 0 ≤ n) (h : m % 65535 = n % 65535) (hz : m = 0 ↔ n = 0) : fold m = fold n := by
  have h1 := fold_bd hm
  have h2 := fold_bd hn
  refine fold_uniq h1.1 h1.2 h2.1 h2.2 ?_ ?_
  · rw [fold_mod, fold_mod, h]
  · rw [fold_zero, fold_zero, hz]
def add (a b : Int) : Int := fold (a + b)
theorem add_bd {a b : Int} (ha : 0 ≤ a) (hb : 0 ≤ b) : 0 ≤ add a b ∧ add a b ≤ 65535 := fold_bd (by omega)
theorem add_mod (a b : Int) : add a b % 65535 = (a + b) % 65535 := fold_mod
theorem add_zero_iff {a b : Int} : add a b = 0 ↔ a + b = 0 := fold_zero
theorem add_assoc {a b c : Int} (ha : 0 ≤ a) (hb : 0 ≤ b) (hc : 0 ≤ c) : add (add a b) c = add a (add b c) := by
  have h1 := add_bd ha hb
  have h2 := add_bd hb hc
  have m1 := add_mod a b
  have m2 := add_mod b c
  have z1 := @add_zero_iff a b
  have z2 := @add_zero_iff b c
  exact fold_congr (by omega) (by omega) (by omega) (by omega)
/-- The plain sum of bytes: the first one is a high half ('hi'), or a low one. -/
def ws : Bool → List Int → Int
  | _, [] => 0
  | true, a :: r => 256 * a + ws false r
  | false, a :: r => a + ws true r
def pt (l : List Int) : Int := fold (ws true l)

end Num
end Go.Proofs.YtkccpidgeecemaaGreatDoor
