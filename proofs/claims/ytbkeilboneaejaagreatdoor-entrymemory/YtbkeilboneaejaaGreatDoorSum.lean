/-
  One's complement sums, in plain numbers: nothing of the program.
-/
import Derived.Test.YtbkeilboneaejaaGreatDoorNum
namespace Go.Proofs.YtbkeilboneaejaaGreatDoor
set_option linter.unusedVariables false
theorem Bytes.set {l : List Int} (h : Bytes l) (k : Nat) {a : Int} (ha : 0 ≤ a) (ha' : a ≤ 255) : Bytes (l.set k a) := fun n hn => by
  rcases List.mem_or_eq_of_mem_set hn with hn | rfl
  · exact h n hn
  · exact ⟨ha, ha'⟩
namespace Num

/-- The word that stands for a plain sum. -/
def fold (n : Int) : Int := if n = 0 then 0 else (n - 1) % 65535 + 1

theorem fold_bd {n : Int} (h : 0 ≤ n) : 0 ≤ fold n ∧ fold n ≤ 65535 := by unfold fold; split <;> omega
theorem fold_mod {n : Int} : fold n % 65535 = n % 65535 := by unfold fold; split <;> omega
theorem fold_zero {n : Int} : fold n = 0 ↔ n = 0 := by unfold fold; split <;> omega
theorem fold_uniq {x y : Int} (hx : 0 ≤ x) (hx' : x ≤ 65535) (hy : 0 ≤ y) (hy' : y ≤ 65535) (hm : x % 65535 = y % 65535) (hz : x = 0 ↔ y = 0) : x = y := by omega
theorem fold_congr {m n : Int} (hm : 0 ≤ m) (hn : 0 ≤ n) (h : m % 65535 = n % 65535) (hz : m = 0 ↔ n = 0) : fold m = fold n := by
  have h1 := fold_bd hm
  have h2 := fold_bd hn
  refine fold_uniq h1.1 h1.2 h2.1 h2.2 ?_ ?_
  · rw [fold_mod, fold_mod, h]
  · rw [fold_zero, fold_zero, hz]
/-- A word is its own fold. -/
theorem fold_self {n : Int} (h : 0 ≤ n) (h' : n ≤ 65535) : fold n = n := by unfold fold; split <;> omega

def add (a b : Int) : Int := fold (a + b)
theorem add_bd {a b : Int} (ha : 0 ≤ a) (hb : 0 ≤ b) : 0 ≤ add a b ∧ add a b ≤ 65535 := fold_bd (by omega)
theorem add_mod (a b : Int) : add a b % 65535 = (a + b) % 65535 := fold_mod
theorem add_zero_iff {a b : Int} : add a b = 0 ↔ a + b = 0 := fold_zero
theorem add_comm (a b : Int) : add a b = add b a := by unfold add; rw [Int.add_comm]
theorem add_assoc {a b c : Int} (ha : 0 ≤ a) (hb : 0 ≤ b) (hc : 0 ≤ c) : add (add a b) c = add a (add b c) := by
  have h1 := add_bd ha hb
  have h2 := add_bd hb hc
  have m1 := add_mod a b
  have m2 := add_mod b c
  have z1 := @add_zero_iff a b
  have z2 := @add_zero_iff b c
  exact fold_congr (by omega) (by omega) (by omega) (by omega)
theorem add_nought {a : Int} (ha : 0 ≤ a) (ha' : a ≤ 65535) : add a 0 = a := by unfold add; rw [Int.add_zero]; exact fold_self ha ha'
theorem add_lack {a : Int} (ha : 0 ≤ a) (ha' : a ≤ 65535) : add a (65535 - a) = 65535 := by
  unfold add; rw [show a + (65535 - a) = 65535 from by omega]; exact fold_self (by omega) (by omega)
theorem add_ones {a : Int} (ha : 0 < a) (ha' : a ≤ 65535) : add a 65535 = a := by
  have h1 := @add_bd a 65535 (by omega) (by omega)
  have m1 := add_mod a 65535
  have z1 := @add_zero_iff a 65535
  omega

/-- A word's two bytes in each other's place. -/
def swap (b : Int) : Int := b % 256 * 256 + b / 256
theorem swap_bd {b : Int} (h : 0 ≤ b) (h' : b ≤ 65535) : 0 ≤ swap b ∧ swap b ≤ 65535 := by unfold swap; omega
theorem swap_mod {b : Int} (h : 0 ≤ b) (h' : b ≤ 65535) : (swap b - 256 * b) % 65535 = 0 := by unfold swap; omega
theorem swap_zero {b : Int} (h : 0 ≤ b) (h' : b ≤ 65535) : swap b = 0 ↔ b = 0 := by unfold swap; omega

def join (a n b : Int) : Int := if n % 2 = 0 then add a b else add a (swap b)
def patch (s was now : Int) : Int := 65535 - add (add (65535 - s) (65535 - was)) now

/-- The plain sum of bytes: the first one is a high half ('hi'), or a low one. -/
def ws : Bool → List Int → Int
  | _, [] => 0
  | true, a :: r => 256 * a + ws false r
  | false, a :: r => a + ws true r
def pt (l : List Int) : Int := fold (ws true l)

theorem ws_bd (hi : Bool) (l : List Int) (h : Bytes l) : 0 ≤ ws hi l ∧ ws hi l ≤ 65280 * l.length := by
  induction l generalizing hi with
  | nil => cases hi <;> simp [ws]
  | cons a r ih =>
    have h1 := h.head
    cases hi
    · have := ih true h.tail; simp only [ws, List.length_cons]; omega
    · have := ih false h.tail; simp only [ws, List.length_cons]; omega
theorem ws_turn (l : List Int) : (ws false l - 256 * ws true l) % 65535 = 0 ∧ (ws true l - 256 * ws false l) % 65535 = 0 := by
  induction l with
  | nil => simp [ws]
  | cons a r ih => simp only [ws]; omega
theorem ws_zero (l : List Int) (h : Bytes l) : ws true l = 0 ↔ ws false l = 0 := by
  induction l with
  | nil => simp [ws]
  | cons a r ih =>
    have h1 := h.head
    have h2 := ih h.tail
    have h3 := ws_bd true r h.tail
    have h4 := ws_bd false r h.tail
    simp only [ws]; omega
theorem ws_app (hi : Bool) (l m : List Int) : ws hi (l ++ m) = ws hi l + ws (hi == (l.length % 2 == 0)) m := by
  induction l generalizing hi with
  | nil => cases hi <;> simp [ws]
  | cons a r ih =>
    have e : ((r.length + 1) % 2 == 0) = !(r.length % 2 == 0) := by
      rcases Nat.mod_two_eq_zero_or_one r.length with h | h
      · rw [h, show (r.length + 1) % 2 = 1 from by omega]; rfl
      · rw [h, show (r.length + 1) % 2 = 0 from by omega]; rfl
    cases hi
    · simp only [List.cons_append, ws, List.length_cons, ih, e]
      cases (r.length % 2 == 0) <;> simp <;> omega
    · simp only [List.cons_append, ws, List.length_cons, ih, e]
      cases (r.length % 2 == 0) <;> simp <;> omega

theorem pt_bd {l : List Int} (h : Bytes l) : 0 ≤ pt l ∧ pt l ≤ 65535 := fold_bd (ws_bd _ l h).1

/-- The pieces' Parts make the whole's. -/
theorem pt_join {l m : List Int} (hl : Bytes l) (hm : Bytes m) (n : Int) (hn : n % 2 = (l.length : Int) % 2) : join (pt l) n (pt m) = pt (l ++ m) := by
  have a1 := ws_bd true l hl
  have a2 := ws_bd true m hm
  have a3 := ws_bd false m hm
  have b1 := pt_bd hl
  have b2 := pt_bd hm
  have c1 : pt l % 65535 = _ := fold_mod
  have c2 : pt m % 65535 = _ := fold_mod
  have d1 : pt l = 0 ↔ _ := fold_zero
  have d2 : pt m = 0 ↔ _ := fold_zero
  have t := ws_turn m
  have z := ws_zero m hm
  have s1 := swap_bd b2.1 b2.2
  have s2 := swap_mod b2.1 b2.2
  have s3 := swap_zero b2.1 b2.2
  have e := ws_app true l m
  unfold join
  rcases Nat.mod_two_eq_zero_or_one l.length with h | h
  · rw [h] at e
    rw [if_pos (by omega)]
    simp at e
    show fold _ = fold _
    rw [e]
    exact fold_congr (by omega) (by omega) (by omega) (by omega)
  · rw [h] at e
    rw [if_neg (by omega)]
    simp at e
    show fold _ = fold _
    rw [e]
    exact fold_congr (by omega) (by omega) (by omega) (by omega)

/-- One byte written over. -/
theorem ws_set (hi : Bool) (l : List Int) (i : Nat) (x : Int) (h : i < l.length) : ws hi (l.set i x) = ws hi l + (x - l[i]?.getD 0) * (if hi = (i % 2 == 0) then 256 else 1) := by
  induction l generalizing hi i with
  | nil => simp at h
  | cons a r ih =>
    cases i with
    | zero => cases hi <;> simp [ws] <;> omega
    | succ i =>
      have hl : i < r.length := by simpa using h
      have e : ((i + 1) % 2 == 0) = !(i % 2 == 0) := by
        rcases Nat.mod_two_eq_zero_or_one i with h | h
        · rw [h, show (i + 1) % 2 = 1 from by omega]; rfl
        · rw [h, show (i + 1) % 2 = 0 from by omega]; rfl
      cases hi
      · simp only [List.set_cons_succ, ws, List.getElem?_cons_succ, ih true i hl, e]
        cases (i % 2 == 0) <;> simp <;> omega
      · simp only [List.set_cons_succ, ws, List.getElem?_cons_succ, ih false i hl, e]
        cases (i % 2 == 0) <;> simp <;> omega
/-- A word written over. -/
theorem ws_word (l : List Int) (t : Nat) (x y : Int) (h : 2 * t + 1 < l.length) :
    ws true ((l.set (2 * t) x).set (2 * t + 1) y) = ws true l - (256 * l[2 * t]?.getD 0 + l[2 * t + 1]?.getD 0) + (256 * x + y) := by
  rw [ws_set true _ _ _ (by simp; omega), ws_set true _ _ _ (by omega)]
  have e1 : (2 * t % 2 == 0) = true := by simp
  have e2 : ((2 * t + 1) % 2 == 0) = false := by rw [show (2 * t + 1) % 2 = 1 from by omega]; rfl
  rw [e1, e2, List.getElem?_set_ne (by omega)]
  simp
  omega
/-- It verifies. -/
theorem verifies (S : Int) (h : 0 ≤ S) : fold (S + (65535 - fold S)) = 65535 := by
  have b := fold_bd h
  have m : fold S % 65535 = _ := fold_mod
  have z : fold S = 0 ↔ _ := fold_zero
  have b' := fold_bd (n := S + (65535 - fold S)) (by omega)
  have m' : fold (S + (65535 - fold S)) % 65535 = _ := fold_mod
  have z' : fold (S + (65535 - fold S)) = 0 ↔ _ := fold_zero
  omega
theorem pt_verifies (l : List Int) (t : Nat) (h : 2 * t + 1 < l.length) (hb : Bytes l) (hx : l[2 * t]?.getD 0 = 0) (hy : l[2 * t + 1]?.getD 0 = 0) :
    pt ((l.set (2 * t) ((65535 - pt l) / 256)).set (2 * t + 1) ((65535 - pt l) % 256)) = 65535 := by
  have b := pt_bd hb
  have e := ws_word l t ((65535 - pt l) / 256) ((65535 - pt l) % 256) h
  rw [hx, hy] at e
  have e' : ws true ((l.set (2 * t) ((65535 - pt l) / 256)).set (2 * t + 1) ((65535 - pt l) % 256)) = ws true l + (65535 - pt l) := by omega
  unfold pt at e' ⊢
  rw [e']
  exact verifies _ (ws_bd true l hb).1
theorem patch_tells {C D was now : Int} (hC : 0 ≤ C) (hw : 0 ≤ was) (hw' : was ≤ 65535) (hn : 0 ≤ now) (hn' : now ≤ 65535) (hwC : was ≤ C) (hD : D = C - was + now) :
    patch (65535 - fold C) was now = if D = 0 then 0 else 65535 - fold D := by
  have b := fold_bd hC
  have m : fold C % 65535 = _ := fold_mod
  have z : fold C = 0 ↔ _ := fold_zero
  have b1 := @add_bd (fold C) (65535 - was) (by omega) (by omega)
  have m1 := add_mod (fold C) (65535 - was)
  have z1 := @add_zero_iff (fold C) (65535 - was)
  have b2 := @add_bd (add (fold C) (65535 - was)) now (by omega) (by omega)
  have m2 := add_mod (add (fold C) (65535 - was)) now
  have z2 := @add_zero_iff (add (fold C) (65535 - was)) now
  have bD := fold_bd (n := D) (by omega)
  have mD : fold D % 65535 = _ := fold_mod
  have zD : fold D = 0 ↔ _ := fold_zero
  unfold patch
  rw [show (65535 : Int) - (65535 - fold C) = fold C from by omega]
  generalize add (add (fold C) (65535 - was)) now = r at *
  generalize add (fold C) (65535 - was) = q at *
  generalize fold C = c at *
  generalize fold D = d at *
  split
  · omega
  · omega
theorem ws_ge_word (l : List Int) (t : Nat) (h : 2 * t + 1 < l.length) (hb : Bytes l) : 256 * l[2 * t]?.getD 0 + l[2 * t + 1]?.getD 0 ≤ ws true l := by
  have e := ws_word l t 0 0 h
  have b := (ws_bd true ((l.set (2 * t) 0).set (2 * t + 1) 0) ((hb.set _ (by omega) (by omega)).set _ (by omega) (by omega))).1
  omega
#print axioms pt_join
end Num
end Go.Proofs.YtbkeilboneaejaaGreatDoor
