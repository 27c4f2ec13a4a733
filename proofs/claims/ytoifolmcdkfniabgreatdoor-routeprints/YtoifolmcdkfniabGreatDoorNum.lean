/-
  Texts, as lists of bytes: pieces, numbers, the two ways to read an address. Nothing of the program.
-/
import Derived.Lib.IndexMore
import Derived.Lib.Join
import Derived.Lib.ItoaNum
import Derived.Lib.Bytealg
namespace Go.Proofs.YtoifolmcdkfniabGreatDoor
set_option linter.unusedVariables false

/-- The text cut at each byte c. -/
def pieces (c : UInt8) : List UInt8 → List (List UInt8)
  | [] => [[]]
  | x :: l => if x = c then [] :: pieces c l else (x :: (pieces c l).headD []) :: (pieces c l).tail
theorem pieces_ne (c : UInt8) (l : List UInt8) : pieces c l ≠ [] := by
  cases l <;> simp [pieces]; split <;> simp
/-- A hexadecimal digit's number; 99: it is none. -/
def dig (c : UInt8) : Nat := if 48 ≤ c.toNat ∧ c.toNat ≤ 57 then c.toNat - 48 else if 97 ≤ c.toNat ∧ c.toNat ≤ 102 then c.toNat - 87 else if 65 ≤ c.toNat ∧ c.toNat ≤ 70 then c.toNat - 55 else 99
def digs (base : Nat) : Nat → List UInt8 → Option Nat
  | n, [] => some n
  | n, c :: l => if dig c < base then digs base (n * base + dig c) l else none
/-- A number of digits to a base, at most so many. -/
def numOf (base most : Nat) (l : List UInt8) : Option Nat := if l.length = 0 ∨ most < l.length then none else digs base 0 l
/-- One of the four numbers. -/
def dec (l : List UInt8) : Option Nat :=
  match numOf 10 3 l with
  | some n => if n ≤ 255 ∧ ¬ (1 < l.length ∧ l.head? = some 48) then some n else none
  | none => none
def alls {α β : Type} (f : α → Option β) : List α → Option (List β)
  | [] => some []
  | x :: l => match f x, alls f l with
    | some y, some r => some (y :: r)
    | _, _ => none
theorem alls_length {α β : Type} (f : α → Option β) : ∀ (l : List α) (r : List β), alls f l = some r → r.length = l.length
  | [], r, h => by simp [alls] at h; subst h; rfl
  | x :: l, r, h => by
    simp only [alls] at h
    split at h
    · rename_i y s h1 h2
      simp only [Option.some.injEq] at h
      subst h
      simp [alls_length f l s h2]
    · simp at h
def parse4P (l : List UInt8) : Option (List Nat) :=
  match alls dec (pieces 46 l) with
  | some r => if r.length = 4 then some r else none
  | none => none
def grps (l : List UInt8) : Option (List Nat) := if l = [] then some [] else alls (numOf 16 4) (pieces 58 l)
def joinG (x y : List Nat) : List Nat := x ++ (List.replicate (8 - (x.length + y.length)) 0 ++ y)
def parse6P (l : List UInt8) : Option (List Nat) :=
  match grps (Lib.cut l [58, 58]).1, grps (Lib.cut l [58, 58]).2.1 with
  | some x, some y => if (Lib.cut l [58, 58]).2.2 = true then (if x.length + y.length < 8 then some (joinG x y) else none) else (if x.length + y.length = 8 then some (joinG x y) else none)
  | _, _ => none
def hi (g : Nat) : Int := ((g / 256 : Nat) : Int)
def lo (g : Nat) : Int := ((g % 256 : Nat) : Int)
def unG : List Nat → List Int
  | [] => []
  | g :: r => hi g :: lo g :: unG r
theorem unG_length : ∀ l : List Nat, (unG l).length = 2 * l.length
  | [] => rfl
  | g :: r => by simp [unG, unG_length r]; omega
/-- What a text is read as: the V, the bytes, and the error's number. -/
def parseP (l : List UInt8) : Int × List Int × Int :=
  if 58 ∈ l then (match parse6P l with | some g => (6, unG g, 0) | none => (0, List.replicate 16 0, 30))
  else (match parse4P l with | some r => (4, r.map Int.ofNat ++ List.replicate 12 0, 0) | none => (0, List.replicate 16 0, 30))
#print axioms alls_length
/-! Cutting at a byte. -/
theorem index_one (c : UInt8) : ∀ l : List UInt8, Lib.index l [c] = Lib.indexByte l c
  | [] => by simp [Lib.index, Lib.indexByte]
  | b :: l => by
    simp only [Lib.index, Lib.indexByte, index_one c l, List.isPrefixOf, Bool.and_true]
    rw [show (c == b) = (b == c) from Bool.beq_comm ..]
theorem mem_index' (c : UInt8) : ∀ l : List UInt8, 0 ≤ Lib.indexByte l c ↔ c ∈ l
  | [] => by simp [Lib.indexByte]
  | b :: l => by
    have ih := mem_index' c l
    have hg := Lib.indexByte_ge l c
    simp only [Lib.indexByte, List.mem_cons, beq_iff_eq]
    by_cases h : b = c
    · subst h; simp
    · have h' : ¬ c = b := fun e => h e.symm
      by_cases h2 : Lib.indexByte l c = -1
      · rw [h2] at ih
        simp at ih
        simp [h, h', h2, ih]
      · have h3 : c ∈ l := ih.1 (by omega)
        simp [h, h2, h3]; omega
theorem mem_index (c : UInt8) (l : List UInt8) : decide (0 ≤ Lib.indexByte l c) = decide (c ∈ l) := decide_eq_decide.mpr (mem_index' c l)
/-- Cut at one byte, by recursion. -/
theorem cut_nil (c : UInt8) : Lib.cut [] [c] = ([], [], false) := by simp [Lib.cut, Lib.index]
theorem cut_hit (c : UInt8) (l : List UInt8) : Lib.cut (c :: l) [c] = ([], l, true) := by simp [Lib.cut, Lib.index, List.isPrefixOf]
theorem index_miss (c x : UInt8) (l : List UInt8) (h : x ≠ c) : Lib.index (x :: l) [c] = if Lib.index l [c] = -1 then -1 else Lib.index l [c] + 1 := by
  have hne : (c == x) = false := by simpa using fun e => h e.symm
  simp only [Lib.index, List.isPrefixOf, hne, Bool.false_and, Bool.false_eq_true, if_false, beq_iff_eq]
theorem cut_miss (c x : UInt8) (l : List UInt8) (h : x ≠ c) : Lib.cut (x :: l) [c] = (x :: (Lib.cut l [c]).1, (Lib.cut l [c]).2.1, (Lib.cut l [c]).2.2) := by
  have hg := Lib.index_ge l [c]
  unfold Lib.cut
  rw [index_miss c x l h]
  by_cases h2 : Lib.index l [c] = -1
  · rw [if_pos h2, h2]; simp
  · rw [if_neg h2, if_pos (show 0 ≤ Lib.index l [c] + 1 by omega), if_pos (show 0 ≤ Lib.index l [c] by omega)]
    rw [show (Lib.index l [c] + 1).toNat = (Lib.index l [c]).toNat + 1 from by omega]
    simp
/-- The pieces by cuts. -/
theorem pieces_cut (c : UInt8) : ∀ l : List UInt8, pieces c l = (Lib.cut l [c]).1 :: (if (Lib.cut l [c]).2.2 = true then pieces c (Lib.cut l [c]).2.1 else [])
  | [] => by simp [cut_nil, pieces]
  | x :: l => by
    by_cases h : x = c
    · subst h; simp [cut_hit, pieces]
    · rw [cut_miss c x l h]
      simp only [pieces, if_neg h]
      rw [pieces_cut c l]
      simp
theorem cut_false (c : UInt8) : ∀ l : List UInt8, (Lib.cut l [c]).2.2 = false → (Lib.cut l [c]).2.1 = []
  | [], _ => by simp [cut_nil]
  | x :: l, h => by
    by_cases hx : x = c
    · subst hx; simp [cut_hit] at h
    · rw [cut_miss c x l hx] at h ⊢
      exact cut_false c l h
end Go.Proofs.YtoifolmcdkfniabGreatDoor
