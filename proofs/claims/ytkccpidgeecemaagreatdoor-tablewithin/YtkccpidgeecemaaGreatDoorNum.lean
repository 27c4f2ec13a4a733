/-
  Options as lists: how they are read and laid. Nothing of the program.
-/
import Derived.Test.YtkccpidgeecemaaGreatDoorRows
namespace Go.Proofs.YtkccpidgeecemaaGreatDoor
set_option linter.unusedVariables false

abbrev O := Int × List Int
/-- A list of bytes. -/
def Bytes (l : List Int) : Prop := ∀ n ∈ l, 0 ≤ n ∧ n ≤ 255
theorem Bytes.tail {a : Int} {l : List Int} (h : Bytes (a :: l)) : Bytes l := fun n hn => h n (List.mem_cons_of_mem _ hn)
theorem Bytes.head {a : Int} {l : List Int} (h : Bytes (a :: l)) : 0 ≤ a ∧ a ≤ 255 := h a List.mem_cons_self
theorem Bytes.take {l : List Int} (h : Bytes l) (k : Nat) : Bytes (l.take k) := fun n hn => h n (List.mem_of_mem_take hn)
theorem Bytes.drop {l : List Int} (h : Bytes l) (k : Nat) : Bytes (l.drop k) := fun n hn => h n (List.mem_of_mem_drop hn)
theorem Bytes.app {l m : List Int} (h : Bytes l) (k : Bytes m) : Bytes (l ++ m) := fun n hn => (List.mem_append.mp hn).elim (h n) (k n)
theorem Bytes.nil : Bytes [] := fun n hn => by simp at hn
theorem Bytes.cons {a : Int} {l : List Int} (h : Bytes l) (ha : 0 ≤ a) (ha' : a ≤ 255) : Bytes (a :: l) := fun n hn => by
  rcases List.mem_cons.mp hn with rfl | hn
  · exact ⟨ha, ha'⟩
  · exact h n hn
theorem Bytes.zeros (k : Nat) : Bytes (List.replicate k 0) := fun n hn => by rw [List.eq_of_mem_replicate hn]; omega
theorem Bytes.getD {l : List Int} (h : Bytes l) (k : Nat) : 0 ≤ l[k]?.getD 0 ∧ l[k]?.getD 0 ≤ 255 := by
  rcases Nat.lt_or_ge k l.length with hk | hk
  · rw [List.getElem?_eq_getElem hk]; exact h _ (List.getElem_mem hk)
  · rw [List.getElem?_eq_none hk]; simp

def zerosP (l : List Int) : Bool := l.all (· == 0)
theorem zerosP_cons (x : Int) (l : List Int) : zerosP (x :: l) = ((x == 0) && zerosP l) := rfl

/-- The options that bytes are, with as many steps as may be wanted. -/
def parseF : Nat → List Int → Option (List O)
  | 0, _ => some []
  | _ + 1, [] => some []
  | f + 1, k :: r =>
    if k = 0 then (if zerosP r = true then some [] else none)
    else if k = 1 then (parseF f r).map ((1, []) :: ·)
    else match r with
      | [] => none
      | n :: s => if 2 ≤ n ∧ n.toNat ≤ s.length + 2 then (parseF f (s.drop (n.toNat - 2))).map ((k, s.take (n.toNat - 2)) :: ·) else none
theorem parseF_fuel : ∀ (f g : Nat) (l : List Int), l.length ≤ f → l.length ≤ g → parseF f l = parseF g l
  | 0, g, [], _, _ => by cases g <;> rfl
  | 0, _, _ :: _, h, _ => by simp at h
  | _ + 1, g, [], _, _ => by cases g <;> rfl
  | _ + 1, 0, _ :: _, _, h => by simp at h
  | f + 1, g + 1, k :: r, hf, hg => by
    simp only [List.length_cons] at hf hg
    unfold parseF
    rw [parseF_fuel f g r (by omega) (by omega)]
    cases r with
    | nil => rfl
    | cons n s =>
      simp only [List.length_cons] at hf hg
      dsimp only
      rw [parseF_fuel f g (s.drop (n.toNat - 2)) (by rw [List.length_drop]; omega) (by rw [List.length_drop]; omega)]
/-- The options that bytes are; none: they may not be. -/
def parseP (l : List Int) : Option (List O) := parseF l.length l
theorem parseP_nil : parseP [] = some [] := rfl
theorem parseP_zero (r : List Int) : parseP (0 :: r) = if zerosP r = true then some [] else none := by unfold parseP; rw [List.length_cons]; simp [parseF]
theorem parseP_one (r : List Int) : parseP (1 :: r) = (parseP r).map ((1, []) :: ·) := by unfold parseP; rw [List.length_cons]; simp [parseF]
theorem parseP_lone (k : Int) (h0 : k ≠ 0) (h1 : k ≠ 1) : parseP [k] = none := by unfold parseP; rw [List.length_cons]; simp [parseF, h0, h1]
theorem parseP_sized (k n : Int) (s : List Int) (h0 : k ≠ 0) (h1 : k ≠ 1) :
    parseP (k :: n :: s) = if 2 ≤ n ∧ n.toNat ≤ s.length + 2 then (parseP (s.drop (n.toNat - 2))).map ((k, s.take (n.toNat - 2)) :: ·) else none := by
  unfold parseP
  rw [List.length_cons, List.length_cons, parseF_fuel (s.drop (n.toNat - 2)).length (s.length + 1) (s.drop (n.toNat - 2)) (Nat.le_refl _) (by rw [List.length_drop]; omega)]
  conv => lhs; unfold parseF
  simp only [h0, h1, if_false]

/-! Build. -/
def validP (b : List Int) : Bool := decide (b.length ≤ 40) && decide (b.length % 4 = 0) && (parseP b).isSome
end Go.Proofs.YtkccpidgeecemaaGreatDoor
