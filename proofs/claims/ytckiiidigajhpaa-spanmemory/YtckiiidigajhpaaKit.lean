/-
  The contracts over lists that can be read (Sl), and alive.
-/
import Derived.Test.YtckiiidigajhpaaAddF
namespace Go.Proofs.Ytckiiidigajhpaa
open Go.ChangeShapes Go.WideShapes Go.ChangeAt Go.RowKit
set_option linter.unusedVariables false

/-- A list that can be read. -/
structure Sl (w : World) (a : Option Addr) (c : Nat) (l : List Sp) : Prop where
  row : Row w a l
  nil : a = none → c = 0
  cap : l.length ≤ c
def Old (w : World) (a : Option Addr) : Prop := ∀ p, a = some p → p.block < w.heap.size
theorem Old.on {w w' : World} {a : Option Addr} (h : Old w a) (hw : Away [] w w') : Old w' a := fun p hp => Nat.lt_of_lt_of_le (h p hp) hw.size
theorem Sl.on {w w' : World} {a : Option Addr} {c : Nat} {l : List Sp} (h : Sl w a c l) (hw : Away [] w w') : Sl w' a c l :=
  ⟨h.row.on hw, h.nil, h.cap⟩
theorem Mk.sl {w w' : World} {v : Value} {l : List Sp} (h : Mk w w' v l) (hl : l.length ≤ 8796093022208) (hok : ∀ x ∈ l, OkS x) : ∃ a c, v = .slice a l.length c ∧ Sl w' a c l := by
  obtain ⟨a, c, hv, hcap, hnil, hrow, hown⟩ := h.1.row hl hok
  exact ⟨a, c, hv, hrow, hnil, hcap⟩
theorem Mk.old {w w' : World} {a : Option Addr} {n c : Nat} {l : List Sp} (h : Mk w w' (.slice a n c) l) : Old w' a := fun p hp => h.1.lt _ (by subst hp; rfl)
theorem right_ok {l : List Sp} (h : rightP l = true) : l.length ≤ 8796093022208 ∧ ∀ x ∈ l, OkS x := ⟨by have := right_short h; omega, fun x hx => ((rf_is h x hx).1).ok⟩
/-- A list is answered. -/
def Tells (w : World) (E : Ending) (w' : World) (r : List Sp) : Prop := ∃ (a : Option Addr) (c n : Nat), E = .returned (.tuple #[.slice a n c, .int .i64 0]) ∧ r.length = n ∧ Sl w' a c r ∧ Away [] w w'
theorem Ans.tells {w w' : World} {b : Bool} {r : List Sp} {E : Ending} (h : Ans w b r E w') (hb : b = true) (hr : rightP r = true) : Tells w E w' r := by
  subst hb
  unfold Ans at h
  rw [if_pos rfl] at h
  obtain ⟨v, rfl, hm⟩ := h
  obtain ⟨h1, h2⟩ := right_ok hr
  obtain ⟨a, c, rfl, hs⟩ := hm.sl h1 h2
  exact ⟨a, c, _, rfl, rfl, hs, hm.2.2⟩
theorem Ans.refuses {w w' : World} {b : Bool} {r : List Sp} {E : Ending} (h : Ans w b r E w') (hb : b = false) : E = .returned (.tuple #[.slice none 0 0, .int .i64 1]) ∧ Away [] w w' := by
  subst hb
  unfold Ans at h
  rw [if_neg (by simp)] at h
  exact h
theorem Sl.none (w : World) : Sl w none 0 [] := ⟨Row.nil _ _, fun _ => rfl, by simp⟩
theorem lit_row (w : World) (m : List Sp) (hl : m.length ≤ 8796093022208) (hok : ∀ x ∈ m, OkS x) : Sl (w.alloc (.cells (m.flatMap encS).toArray 29)) (some ⟨w.heap.size, 0, none⟩) m.length m := by
  refine ⟨⟨hl, hok, .inr ⟨w.heap.size, 0, rfl, fun i x hx => ?_⟩⟩, by simp, Nat.le_refl _⟩
  obtain ⟨f1, f2⟩ := flat_get m i x hx
  rw [World.cell?_alloc_at (hn := rfl), World.cell?_alloc_at (hn := rfl)]
  simp only [Nat.zero_add]
  exact ⟨by simpa using f1, by simpa using f2⟩
theorem own_s {w : World} {a : Option Addr} {l : List Sp} {n c : Nat} (h : Sl w a c l) (hn : l.length = n) :
    Calls Try.prog 10 #[.slice a n c] w fun E w' => ∃ a' c', E = .returned (.slice a' n c') ∧ Sl w' a' c' l ∧ Old w' a' ∧ Away [] w w' := by
  subst hn
  refine (own_c a l _ c w rfl h.row).mono ?_
  rintro E w' ⟨v, rfl, hm⟩
  obtain ⟨a', c', rfl, hs⟩ := hm.sl h.row.1 h.row.2.1
  exact ⟨a', c', rfl, hs, hm.old, hm.2.2⟩
theorem same_s {z : Bool} {w : World} {a b : Option Addr} {l m : List Sp} {n k c d : Nat} (h : Sl w a c l) (h2 : Sl w b d m) (hn : l.length = n) (hk : m.length = k) (hz : decide (l = m) = z) :
    Calls Try.prog 11 #[.slice a n c, .slice b k d] w fun E w' => E = .returned (.bool z) ∧ Away [] w w' := by
  refine (same_b a b l m n k c d w hn hk h.row h2.row hz).mono ?_
  rintro E w' ⟨rfl, q, rfl⟩
  exact ⟨rfl, (Away.refl _ _).drewN q⟩
theorem norm_s {w : World} {a : Option Addr} {l : List Sp} {n c : Nat} (h : Sl w a c l) (hn : l.length = n) :
    Calls Try.prog 9 #[.slice a n c] w fun E w' => (allIs l = true ∧ ∃ r, Tells w E w' r ∧ Of r (inB l)) ∨ (allIs l = false ∧ E = .returned (.tuple #[.slice none 0 0, .int .i64 1]) ∧ Away [] w w') := by
  refine (norm_c a l n c w hn h.nil h.row).mono ?_
  rintro E w' (⟨h1, v, r, rfl, hm, hof⟩ | h1)
  · refine .inl ⟨h1, r, ?_, hof⟩
    obtain ⟨k1, k2⟩ := right_ok hof.right
    obtain ⟨a', c', rfl, hs⟩ := hm.sl k1 k2
    exact ⟨a', c', _, rfl, rfl, hs, hm.2.2⟩
  · exact .inr h1
theorem normY {w : World} {a : Option Addr} {l : List Sp} {n c : Nat} (r : List Sp) (h : Sl w a c l) (hn : l.length = n) (hi : allIs l = true) (hr : Of r (inB l)) :
    Calls Try.prog 9 #[.slice a n c] w fun E w' => Tells w E w' r := by
  refine (norm_s h hn).mono ?_
  rintro E w' (⟨-, r', ht, hof⟩ | ⟨h1, -⟩)
  · rwa [hof.uniq hr] at ht
  · rw [hi] at h1; simp at h1
theorem normN {w : World} {a : Option Addr} {l : List Sp} {n c : Nat} (h : Sl w a c l) (hn : l.length = n) (hi : allIs l = false) :
    Calls Try.prog 9 #[.slice a n c] w fun E w' => E = .returned (.tuple #[.slice none 0 0, .int .i64 1]) ∧ Away [] w w' := by
  refine (norm_s h hn).mono ?_
  rintro E w' (⟨h1, -⟩ | ⟨-, h1⟩)
  · rw [hi] at h1; simp at h1
  · exact h1
theorem addY {w : World} {a : Option Addr} {l : List Sp} {n c : Nat} (s : Sp) (r : List Sp) (h : Sl w a c l) (hn : l.length = n) (ho : Old w a) (hb : rightP l = true) (hs : isB s = true) (hr : addP l s = r) :
    Calls Try.prog 13 #[.slice a n c, valS s] w fun E w' => Tells w E w' r := by
  refine (add_c a l s n c w hn (hn ▸ h.cap) h.nil ho h.row).mono ?_
  intro E w' hA
  rw [hr] at hA
  exact hA.tells (by rw [hb, hs]; rfl) (by rw [← hr]; exact (add_of hb (isB_iff.1 hs)).right)
theorem addN {w : World} {a : Option Addr} {l : List Sp} {n c : Nat} (s : Sp) (h : Sl w a c l) (hn : l.length = n) (ho : Old w a) (hb : (rightP l && isB s) = false) :
    Calls Try.prog 13 #[.slice a n c, valS s] w fun E w' => E = .returned (.tuple #[.slice none 0 0, .int .i64 1]) ∧ Away [] w w' := by
  refine (add_c a l s n c w hn (hn ▸ h.cap) h.nil ho h.row).mono ?_
  intro E w' hA
  exact hA.refuses hb
theorem cutY {w : World} {a : Option Addr} {l : List Sp} {n c : Nat} (s : Sp) (r : List Sp) (h : Sl w a c l) (hn : l.length = n) (hb : rightP l = true) (hs : isB s = true) (hr : cutP l s = r) :
    Calls Try.prog 14 #[.slice a n c, valS s] w fun E w' => Tells w E w' r := by
  refine (cut_c a l s n c w hn h.row).mono ?_
  intro E w' hA
  rw [hr] at hA
  exact hA.tells (by rw [hb, hs]; rfl) (by rw [← hr]; exact (cut_of hb (isB_iff.1 hs)).right)
theorem cutN {w : World} {a : Option Addr} {l : List Sp} {n c : Nat} (s : Sp) (h : Sl w a c l) (hn : l.length = n) (hb : (rightP l && isB s) = false) :
    Calls Try.prog 14 #[.slice a n c, valS s] w fun E w' => E = .returned (.tuple #[.slice none 0 0, .int .i64 1]) ∧ Away [] w w' := by
  refine (cut_c a l s n c w hn h.row).mono ?_
  intro E w' hA
  exact hA.refuses hb
theorem holesY {w : World} {a : Option Addr} {l : List Sp} {n c : Nat} (to : Int) (r : List Sp) (h : Sl w a c l) (hn : l.length = n) (hb : rightP l = true) (hs : 0 ≤ to ∧ to ≤ 65535) (hr : holesP l to = r) :
    Calls Try.prog 15 #[.slice a n c, .int .i64 to] w fun E w' => Tells w E w' r := by
  refine (holes_c a l to n c w hn h.row).mono ?_
  intro E w' hA
  rw [hr] at hA
  exact hA.tells (by rw [hb, decide_eq_true hs]; rfl) (by rw [← hr]; exact (holes_of hb hs.2).right)
theorem holesN {w : World} {a : Option Addr} {l : List Sp} {n c : Nat} (to : Int) (h : Sl w a c l) (hn : l.length = n) (hb : (rightP l && decide (0 ≤ to ∧ to ≤ 65535)) = false) :
    Calls Try.prog 15 #[.slice a n c, .int .i64 to] w fun E w' => E = .returned (.tuple #[.slice none 0 0, .int .i64 1]) ∧ Away [] w w' := by
  refine (holes_c a l to n c w hn h.row).mono ?_
  intro E w' hA
  exact hA.refuses hb
theorem rightS {z : Bool} {w : World} {a : Option Addr} {l : List Sp} {n c : Nat} (h : Sl w a c l) (hn : l.length = n) (hz : rightP l = z) :
    Calls Try.prog 12 #[.slice a n c] w fun E w' => E = .returned (.bool z) ∧ Away [] w w' := by rw [← hz]; exact right_c a l n c w hn h.row
theorem hasS {z : Bool} {w : World} {a : Option Addr} {l : List Sp} {n c : Nat} (s : Sp) (h : Sl w a c l) (hn : l.length = n) (hz : (rightP l && isB s && hasP l s) = z) :
    Calls Try.prog 16 #[.slice a n c, valS s] w fun E w' => E = .returned (.bool z) ∧ Away [] w w' := by rw [← hz]; exact has_c a l s n c w hn h.row
theorem meetsS {z : Bool} {w : World} {a : Option Addr} {l : List Sp} {n c : Nat} (s : Sp) (h : Sl w a c l) (hn : l.length = n) (hz : (rightP l && isB s && meetsP l s) = z) :
    Calls Try.prog 17 #[.slice a n c, valS s] w fun E w' => E = .returned (.bool z) ∧ Away [] w w' := by rw [← hz]; exact meets_c a l s n c w hn h.row
theorem sizeS {z : Int} {w : World} {a : Option Addr} {l : List Sp} {n c : Nat} (h : Sl w a c l) (hn : l.length = n) (hz : sizeP l = z) :
    Calls Try.prog 18 #[.slice a n c] w fun E w' => E = .returned (.int .i64 z) ∧ Away [] w w' := by rw [← hz]; exact size_c a l n c w hn h.row
theorem inS_s {z : Bool} {w : World} {a : Option Addr} {l : List Sp} {n c : Nat} (m : Int) (h : Sl w a c l) (hn : l.length = n) (hz : inB l m = z) :
    Calls Try.prog 22 #[.slice a n c, .int .i64 m] w fun E w' => E = .returned (.bool z) ∧ w' = w := by rw [← hz]; exact in_c a l n c m w hn h.row
theorem spansS {z : Bool} {w : World} {a : Option Addr} {l : List Sp} {n c : Nat} (h : Sl w a c l) (hn : l.length = n) (hz : allIs l = z) :
    Calls Try.prog 23 #[.slice a n c] w fun E w' => E = .returned (.bool z) ∧ Away [] w w' := by
  rw [← hz]; exact (spans_c a l n c w hn h.row).mono fun E w' h => h.away
theorem risingS {z : Bool} {w : World} {a : Option Addr} {l : List Sp} {n c : Nat} (h : Sl w a c l) (hn : l.length = n) (hz : rightP l = z) :
    Calls Try.prog 20 #[.slice a n c] w fun E w' => E = .returned (.bool z) ∧ Away [] w w' := by
  rw [← hz]; exact (rising_c a l n c w hn h.row).mono fun E w' h => h.away
#print axioms risingS
end Go.Proofs.Ytckiiidigajhpaa
