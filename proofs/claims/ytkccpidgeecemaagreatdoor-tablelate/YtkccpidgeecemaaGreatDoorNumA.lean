/-
  Packets as plain data: when one is right, its bytes, and what bytes are. Nothing of the program.
-/
import Derived.Test.YtkccpidgeecemaaGreatDoorRows
namespace Go.Proofs.YtkccpidgeecemaaGreatDoor
set_option linter.unusedVariables false
abbrev O := Int × List Int
def Bytes (l : List Int) : Prop := ∀ n ∈ l, 0 ≤ n ∧ n ≤ 255
theorem Bytes.tail {a : Int} {l : List Int} (h : Bytes (a :: l)) : Bytes l := fun n hn => h n (List.mem_cons_of_mem _ hn)
theorem Bytes.head {a : Int} {l : List Int} (h : Bytes (a :: l)) : 0 ≤ a ∧ a ≤ 255 := h a List.mem_cons_self
theorem Bytes.take {l : List Int} (h : Bytes l) (k : Nat) : Bytes (l.take k) := fun n hn => h n (List.mem_of_mem_take hn)
theorem Bytes.drop {l : List Int} (h : Bytes l) (k : Nat) : Bytes (l.drop k) := fun n hn => h n (List.mem_of_mem_drop hn)
theorem Bytes.app {l m : List Int} (h : Bytes l) (k : Bytes m) : Bytes (l ++ m) := fun n hn => (List.mem_append.mp hn).elim (h n) (k n)
theorem Bytes.nil : Bytes [] := fun n hn => by simp at hn
theorem Bytes.cons {a : Int} {l : List Int} (h : Bytes l) (ha : 0 ≤ a) (ha' : a ≤ 255) : Bytes (a :: l) := fun n hn => by
  rcases List.mem_cons.mp hn with rfl | hn
  · exact ⟨ha, ha'⟩
  · exact h n hn
theorem Bytes.zeros (k : Nat) : Bytes (List.replicate k 0) := fun n hn => by rw [List.eq_of_mem_replicate hn]; omega
theorem Bytes.getD {l : List Int} (h : Bytes l) (k : Nat) : 0 ≤ l[k]?.getD 0 ∧ l[k]?.getD 0 ≤ 255 := by
  rcases Nat.lt_or_ge k l.length with hk | hk
  · rw [List.getElem?_eq_getElem hk]; exact h _ (List.getElem_mem hk)
  · rw [List.getElem?_eq_none hk]; simp
def zerosP (l : List Int) : Bool := l.all (· == 0)
theorem zerosP_cons (x : Int) (l : List Int) : zerosP (x :: l) = ((x == 0) && zerosP l) := rfl
def parseF : Nat → List Int → Option (List O)
  | 0, _ => some []
  | _ + 1, [] => some []
  | f + 1, k :: r =>
    if k = 0 then (if zerosP r = true then some [] else none)
    else if k = 1 then (parseF f r).map ((1, []) :: ·)
    else match r with
      | [] => none
      | n :: s => if 2 ≤ n ∧ n.toNat ≤ s.length + 2 then (parseF f (s.drop (n.toNat - 2))).map ((k, s.take (n.toNat - 2)) :: ·) else none
theorem parseF_fuel : ∀ (f g : Nat) (l : List Int), l.length ≤ f → l.length ≤ g → parseF f l = parseF g l
  | 0, g, [], _, _ => by cases g <;> rfl
  | 0, _, _ :: _, h, _ => by simp at h
  | _ + 1, g, [], _, _ => by cases g <;> rfl
  | _ + 1, 0, _ :: _, _, h => by simp at h
  | f + 1, g + 1, k :: r, hf, hg => by
    simp only [List.length_cons] at hf hg
    unfold parseF
    rw [parseF_fuel f g r (by omega) (by omega)]
    cases r with
    | nil => rfl
    | cons n s =>
      simp only [List.length_cons] at hf hg
      dsimp only
      rw [parseF_fuel f g (s.drop (n.toNat - 2)) (by rw [List.length_drop]; omega) (by rw [List.length_drop]; omega)]
def parseP (l : List Int) : Option (List O) := parseF l.length l
theorem parseP_nil : parseP [] = some [] := rfl
theorem parseP_zero (r : List Int) : parseP (0 :: r) = if zerosP r = true then some [] else none := by unfold parseP; rw [List.length_cons]; simp [parseF]
theorem parseP_one (r : List Int) : parseP (1 :: r) = (parseP r).map ((1, []) :: ·) := by unfold parseP; rw [List.length_cons]; simp [parseF]
theorem parseP_lone (k : Int) (h0 : k ≠ 0) (h1 : k ≠ 1) : parseP [k] = none := by unfold parseP; rw [List.length_cons]; simp [parseF, h0, h1]
theorem parseP_sized (k n : Int) (s : List Int) (h0 : k ≠ 0) (h1 : k ≠ 1) :
    parseP (k :: n :: s) = if 2 ≤ n ∧ n.toNat ≤ s.length + 2 then (parseP (s.drop (n.toNat - 2))).map ((k, s.take (n.toNat - 2)) :: ·) else none := by
  unfold parseP
  rw [List.length_cons, List.length_cons, parseF_fuel (s.drop (n.toNat - 2)).length (s.length + 1) (s.drop (n.toNat - 2)) (Nat.le_refl _) (by rw [List.length_drop]; omega)]
  conv => lhs; unfold parseF
  simp only [h0, h1, if_false]
/-! Build. -/
def validP (b : List Int) : Bool := decide (b.length ≤ 40) && decide (b.length % 4 = 0) && (parseP b).isSome
theorem Bytes.set {l : List Int} (h : Bytes l) (k : Nat) {a : Int} (ha : 0 ≤ a) (ha' : a ≤ 255) : Bytes (l.set k a) := fun n hn => by
  rcases List.mem_or_eq_of_mem_set hn with hn | rfl
  · exact h n hn
  · exact ⟨ha, ha'⟩
namespace Num
def fold (n : Int) : Int := if n = 0 then 0 else (n - 1) % 65535 + 1
theorem fold_bd {n : Int} (h : 0 ≤ n) : 0 ≤ fold n ∧ fold n ≤ 65535 := by unfold fold; split <;> omega
theorem fold_mod {n : Int} : fold n % 65535 = n % 65535 := by unfold fold; split <;> omega
theorem fold_zero {n : Int} : fold n = 0 ↔ n = 0 := by unfold fold; split <;> omega
theorem fold_uniq {x y : Int} (hx : 0 ≤ x) (hx' : x ≤ 65535) (hy : 0 ≤ y) (hy' : y ≤ 65535) (hm : x % 65535 = y % 65535) (hz : x = 0 ↔ y = 0) : x = y := by omega
theorem fold_congr {m n : Int} (hm : 0 ≤ m) (hn : 0 ≤ n) (h : m % 65535 = n % 65535) (hz : m = 0 ↔ n = 0) : fold m = fold n := by
  have h1 := fold_bd hm
  have h2 := fold_bd hn
  refine fold_uniq h1.1 h1.2 h2.1 h2.2 ?_ ?_
  · rw [fold_mod, fold_mod, h]
  · rw [fold_zero, fold_zero, hz]
def add (a b : Int) : Int := fold (a + b)
theorem add_bd {a b : Int} (ha : 0 ≤ a) (hb : 0 ≤ b) : 0 ≤ add a b ∧ add a b ≤ 65535 := fold_bd (by omega)
theorem add_mod (a b : Int) : add a b % 65535 = (a + b) % 65535 := fold_mod
theorem add_zero_iff {a b : Int} : add a b = 0 ↔ a + b = 0 := fold_zero
theorem add_assoc {a b c : Int} (ha : 0 ≤ a) (hb : 0 ≤ b) (hc : 0 ≤ c) : add (add a b) c = add a (add b c) := by
  have h1 := add_bd ha hb
  have h2 := add_bd hb hc
  have m1 := add_mod a b
  have m2 := add_mod b c
  have z1 := @add_zero_iff a b
  have z2 := @add_zero_iff b c
  exact fold_congr (by omega) (by omega) (by omega) (by omega)
def ws : Bool → List Int → Int
  | _, [] => 0
  | true, a :: r => 256 * a + ws false r
  | false, a :: r => a + ws true r
def pt (l : List Int) : Int := fold (ws true l)
end Num
end Go.Proofs.YtkccpidgeecemaaGreatDoor
namespace Go.Proofs.YtkccpidgeecemaaGreatDoor
open Num
set_option linter.unusedVariables false
structure Pk where
  v : Int
  tos : Int
  flow : Int
  sv : Int
  sb : List Int
  dv : Int
  db : List Int
  proto : Int
  ttl : Int
  id : Int
  df : Bool
  more : Bool
  frag : Bool
  off : Int
  o : List Int
  d : List Int
def z12 : List Int := [0, 0, 0, 0, 0, 0, 0, 0, 0, 0, 0, 0]
def z16 : List Int := [0, 0, 0, 0, 0, 0, 0, 0, 0, 0, 0, 0, 0, 0, 0, 0]
def zeroPk : Pk := ⟨0, 0, 0, 0, z16, 0, z16, 0, 0, 0, false, false, false, 0, [], []⟩
def i64ok (n : Int) : Prop := -9223372036854775808 ≤ n ∧ n ≤ 9223372036854775807
structure Wf (p : Pk) : Prop where
  v : i64ok p.v
  tos : i64ok p.tos
  flow : i64ok p.flow
  sv : i64ok p.sv
  sl : p.sb.length = 16
  sb : Bytes p.sb
  dv : i64ok p.dv
  dl : p.db.length = 16
  db : Bytes p.db
  proto : i64ok p.proto
  ttl : i64ok p.ttl
  id0 : 0 ≤ p.id
  id1 : p.id ≤ 4294967295
  off : i64ok p.off
  o : Bytes p.o
  ol : p.o.length ≤ 140737488355328
  d : Bytes p.d
  dn : p.d.length ≤ 140737488355328
def octP (n : Int) : Bool := decide (0 ≤ n) && decide (n ≤ 255)
def adrP (v : Int) (l : List Int) : Bool := decide (v = 4) && decide (l.drop 4 = z12)
def placedP (off : Int) (more : Bool) (n : Nat) : Bool :=
  decide (0 ≤ off) && decide (off ≤ 65528) && decide (off % 8 = 0) && (!more || decide (n % 8 = 0)) && (!(more || decide (0 < off)) || decide (n ≠ 0)) && decide (off + n ≤ 65535)
def formedP (p : Pk) : Bool :=
  decide (p.v = 4) && decide (p.flow = 0) && !p.frag && decide (p.id ≤ 65535) && octP p.tos && octP p.ttl && octP p.proto && adrP p.sv p.sb && adrP p.dv p.db && placedP p.off p.more p.d.length && decide (20 + p.o.length + p.d.length ≤ 65535)
def rightP (p : Pk) : Bool := formedP p && validP p.o
structure Formed (p : Pk) : Prop where
  v : p.v = 4
  flow : p.flow = 0
  frag : p.frag = false
  id : p.id ≤ 65535
  t0 : 0 ≤ p.tos
  t1 : p.tos ≤ 255
  l0 : 0 ≤ p.ttl
  l1 : p.ttl ≤ 255
  r0 : 0 ≤ p.proto
  r1 : p.proto ≤ 255
  sv : p.sv = 4
  sb : p.sb.drop 4 = z12
  dv : p.dv = 4
  db : p.db.drop 4 = z12
  o0 : 0 ≤ p.off
  o1 : p.off ≤ 65528
  o8 : p.off % 8 = 0
  m8 : p.more = true → p.d.length % 8 = 0
  m0 : p.more = true → p.d.length ≠ 0
  f0 : 0 < p.off → p.d.length ≠ 0
  reach : p.off + p.d.length ≤ 65535
  all : 20 + p.o.length + p.d.length ≤ 65535
theorem placed_iff (off : Int) (more : Bool) (n : Nat) : placedP off more n = true ↔ 0 ≤ off ∧ off ≤ 65528 ∧ off % 8 = 0 ∧ (more = true → n % 8 = 0) ∧ (more = true → n ≠ 0) ∧ (0 < off → n ≠ 0) ∧ off + n ≤ 65535 := by
  unfold placedP
  simp only [Bool.and_eq_true, Bool.or_eq_true, decide_eq_true_eq, Bool.not_eq_true', Bool.or_eq_false_iff, decide_eq_false_iff_not]
  cases more <;> simp only [Bool.true_eq_false, Bool.false_eq_true, false_and, true_and, false_or, true_or, and_true, false_implies, forall_const] <;> omega
theorem formed_iff (p : Pk) : formedP p = true ↔ Formed p := by
  unfold formedP octP adrP
  simp only [Bool.and_eq_true, decide_eq_true_eq, placed_iff, Bool.not_eq_true']
  constructor
  · rintro ⟨⟨⟨⟨⟨⟨⟨⟨⟨⟨h1, h2⟩, h3⟩, h4⟩, h5, h6⟩, h7, h8⟩, h9, h10⟩, h11, h12⟩, h13, h14⟩, h15, h16, h17, h18, h19, h20, h21⟩, h22⟩
    exact ⟨h1, h2, h3, h4, h5, h6, h7, h8, h9, h10, h11, h12, h13, h14, h15, h16, h17, h18, h19, h20, h21, h22⟩
  · rintro ⟨h1, h2, h3, h4, h5, h6, h7, h8, h9, h10, h11, h12, h13, h14, h15, h16, h17, h18, h19, h20, h21, h22⟩
    exact ⟨⟨⟨⟨⟨⟨⟨⟨⟨⟨h1, h2⟩, h3⟩, h4⟩, h5, h6⟩, h7, h8⟩, h9, h10⟩, h11, h12⟩, h13, h14⟩, h15, h16, h17, h18, h19, h20, h21⟩, h22⟩
theorem right_iff (p : Pk) : rightP p = true ↔ Formed p ∧ validP p.o = true := by unfold rightP; rw [Bool.and_eq_true, formed_iff]
theorem valid_len {l : List Int} (h : validP l = true) : l.length ≤ 40 ∧ l.length % 4 = 0 := by
  unfold validP at h; simp at h; exact ⟨h.1.1, h.1.2⟩
def flagP (p : Pk) : Int := p.off / 8 + (if p.df = true then 16384 else 0) + (if p.more = true then 8192 else 0)
def totP (p : Pk) : Int := 20 + p.o.length + p.d.length
def hd (p : Pk) (x y : Int) : List Int :=
  (64 + (20 + p.o.length) / 4) :: p.tos :: totP p / 256 :: totP p % 256 :: p.id / 256 :: p.id % 256 :: flagP p / 256 :: flagP p % 256 :: p.ttl :: p.proto :: x :: y :: (p.sb.take 4 ++ (p.db.take 4 ++ p.o))
def gt (b : List Int) (i : Nat) : Int := b[i]?.getD 0
end Go.Proofs.YtkccpidgeecemaaGreatDoor
