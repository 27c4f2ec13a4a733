/-
  The contracts of Part and Of.
-/
import Derived.Test.YtbjnhjdbnliofaaPure
import Derived.Deep.QuietTactic
import Derived.BigQuiet
import Derived.WalkSmall
import Derived.Laws.Rows
namespace Go.Proofs.Ytbjnhjdbnliofaa
open Go.RowKit Num
set_option linter.unusedVariables false

/-- The bytes l lie at a. -/
def Row (w : World) (a : Option Addr) (l : List Int) : Prop :=
  l.length ≤ 140737488355328 ∧ Bytes l ∧ (l = [] ∨ ∃ b off, a = some ⟨b, off, none⟩ ∧ ∀ i, i < l.length → w.cell? ⟨b, off + i, none⟩ = some (.int .u8 (l[i]?.getD 0)))

theorem lt_of_cell {w : World} {b o : Nat} {v : Value} (h : w.cell? ⟨b, o, none⟩ = some v) : b < w.heap.size := block_lt_of_cell h
theorem Row.below {w w' : World} {a : Option Addr} {l : List Int} (h : Row w a l) {B : Nat} (hb : Below B w w') (hB : w.heap.size ≤ B) : Row w' a l := by
  obtain ⟨h1, h2, h3⟩ := h
  refine ⟨h1, h2, ?_⟩
  rcases h3 with h3 | ⟨b, off, rfl, hc⟩
  · exact .inl h3
  · refine .inr ⟨b, off, rfl, fun i hi => ?_⟩
    have := lt_of_cell (hc i hi)
    rw [hb.cell (p := ⟨b, off + i, none⟩) (by show b < B; omega)]
    exact hc i hi
theorem Row.drewN {w : World} {a : Option Addr} {l : List Int} (h : Row w a l) (n : Nat) : Row (w.drewN n) a l := h

/-- The length of a slice in a slot. -/
def lenOf : Value → Nat
  | .slice _ n _ => n
  | _ => 0

theorem two_of {l : List Int} (h : 2 ≤ l.length) : ∃ x y r, l = x :: y :: r := by
  match l, h with
  | x :: y :: r, _ => exact ⟨x, y, r, rfl⟩

set_option maxHeartbeats 1000000 in
theorem part_any (a : Option Addr) (l : List Int) (cap : Nat) (hcap : l.length ≤ cap) (w : World) (hr : Row w a l) :
    Calls Try.prog 11 #[.slice a l.length cap] w fun e w' => e = .returned (.int .u16 (pt l)) ∧ ∃ n, w' = w.drewN n := by
  go_enter Try.func11, Try.ntmps11
  go_wp2
  go_loopw [0, 3] (fun s p wr => ∃ (r : List Int) (a' : Option Addr) (c : Nat) (q : Int), s = .slice a' r.length c ∧ r.length ≤ c ∧ Row w a' r ∧ p = .int .u64 q ∧ 0 ≤ q ∧ q + ws true r = ws true l ∧ ∃ n, wr = w.drewN n)
    (fun s _ _ => lenOf s)
  case atStart => exact ⟨l, a, cap, 0, rfl, hcap, hr, rfl, by omega, by omega, 0, rfl⟩
  case round =>
    obtain ⟨r, a', c, q, rfl, hc, hrow, rfl, hq, hsum, n, rfl⟩ := hrel
    obtain ⟨hlen, hby, hcell⟩ := hrow
    by_cases h2 : 2 ≤ r.length
    · obtain ⟨x, y, r', rfl⟩ := two_of h2
      rcases hcell with hcell | ⟨b, off, rfl, hcell⟩
      · simp at hcell
      have c0 : w.cell? ⟨b, off, none⟩ = some (.int .u8 x) := hcell 0 (by simp)
      have c1 : w.cell? ⟨b, off + 1, none⟩ = some (.int .u8 y) := hcell 1 (by simp)
      have bx := hby.head
      have by' := hby.tail.head
      have hws : ws true (x :: y :: r') = 256 * x + (y + ws true r') := rfl
      have hb' := ws_bd true r' hby.tail.tail
      have HL : Hid (q + (256 * x + (y + ws true r')) = ws true l) := by rw [← hws]; exact hsum
      have hq2 : q ≤ 9223372036854775807 - 65536 := by
        have := ws_bd true l hr.2.1
        have := hr.1
        omega
      have HC : Hid (∀ i, i < r'.length → w.cell? ⟨b, off + 2 + i, none⟩ = some (.int .u8 (r'[i]?.getD 0))) := fun i hi => by
        have := hcell (i + 2) (by simp; omega)
        simpa [Nat.add_assoc, Nat.add_comm, Nat.add_left_comm] using this
      have hl2 : r'.length + 2 ≤ c := by simpa using hc
      have HB : Hid (Bytes r') := hby.tail.tail
      clear hcell hsum hws hby
      go_wp2
      go_quiet (fail)
      go_wp2
      go_roundw
      case rel =>
        refine ⟨r', _, _, _, rfl, by omega, ⟨by simp at hlen; omega, HB.out, ?_⟩, rfl, by omega, by have := HL.out; omega, _, rfl⟩
        by_cases hn : c = 2
        · left; exact List.eq_nil_of_length_eq_zero (by omega)
        · right; exact ⟨b, off + 2, if_neg hn, HC.out⟩
      case measure => simp [lenOf]; omega
    · by_cases h1 : r.length = 1
      · obtain ⟨x, rfl⟩ := List.length_eq_one_iff.mp h1
        rcases hcell with hcell | ⟨b, off, rfl, hcell⟩
        · simp at hcell
        have c0 : w.cell? ⟨b, off, none⟩ = some (.int .u8 x) := hcell 0 (by simp)
        have bx := hby.head
        have hws : ws true [x] = 256 * x := by simp [ws]
        have HL : Hid (q + x * 256 = ws true l) := by show q + x * 256 = ws true l; omega
        have hq2 : q ≤ 9223372036854775807 - 65536 := by
          have := ws_bd true l hr.2.1
          have := hr.1
          omega
        clear hcell hsum hws hby h1 h2 hlen hc
        go_wp2_with (go_at_call 18; refine (fold_any _ (by omega) (by omega) _).mono ?_; rintro e w' ⟨rfl, rfl⟩)
        go_ret
        exact ⟨ret_int (by rw [HL.out]; rfl), n, rfl⟩
      · have h0 : r = [] := List.eq_nil_of_length_eq_zero (by omega)
        subst h0
        have hws : ws true [] = 0 := rfl
        have HL : Hid (q = ws true l) := by show q = ws true l; omega
        have hq2 : q ≤ 9223372036854775807 := by
          have := ws_bd true l hr.2.1
          have := hr.1
          omega
        clear hcell hsum hws hby h1 h2 hlen hc
        go_wp2_with (go_at_call 18; refine (fold_any _ (by omega) (by omega) _).mono ?_; rintro e w' ⟨rfl, rfl⟩)
        go_ret
        exact ⟨ret_int (by rw [HL.out]; rfl), n, rfl⟩

set_option maxHeartbeats 400000 in
theorem of_any (a : Option Addr) (l : List Int) (cap : Nat) (hcap : l.length ≤ cap) (w : World) (hr : Row w a l) :
    Calls Try.prog 15 #[.slice a l.length cap] w fun e w' => e = .returned (.int .u16 (65535 - pt l)) ∧ ∃ n, w' = w.drewN n := by
  have hb := pt_bd hr.2.1
  go_enter Try.func15, Try.ntmps15
  go_wp2_with fail
  refine (part_any a l cap hcap _ hr).mono ?_
  rintro e w' ⟨rfl, n, rfl⟩
  go_wp2_with fail
  go_ret
  exact ⟨rfl, n, rfl⟩

theorem row_new (w : World) (l : List Int) (hl : l.length ≤ 140737488355328) (hb : Bytes l) (n : Nat) (hn : n = w.heap.size) : Row (w.alloc (.cells (l.map (Value.int .u8)).toArray 5)) (some ⟨n, 0, none⟩) l := by
  subst hn
  refine ⟨hl, hb, .inr ⟨w.heap.size, 0, rfl, fun i hi => ?_⟩⟩
  simp [World.cell?_alloc_at, hi]
set_option maxHeartbeats 1000000 in
theorem known_any (w : World) :
    Calls Try.prog 9 #[] w fun e w' => e = .returned (.bool true) ∧ Below w.heap.size w w' := by
  have b1 : Bytes [1, 2, 3, 4, 5] := by unfold Bytes; decide
  have b2 : Bytes [255, 255] := by unfold Bytes; decide
  have e1 : pt [1, 2, 3, 4, 5] = 2310 := by decide
  have e2 : join 1026 3 1029 = 2310 := by decide
  have e3 : (65535 : Int) - pt [255, 255] = 0 := by decide
  have c1 := fun wx hr => part_any (some ⟨w.heap.size, 0, none⟩) [1, 2, 3, 4, 5] 5 (by decide) wx hr
  have c2 := fun wx => join_any 1026 3 1029 (by decide) (by decide) (by decide) (by decide) (by decide) (by decide) wx
  have c3 := fun wx hr => of_any (some ⟨w.heap.size + 1, 0, none⟩) [255, 255] 2 (by decide) wx hr
  rw [e1] at c1
  rw [e2] at c2
  rw [e3] at c3
  have H1 : Hid _ := c1
  have H2 : Hid _ := c2
  have H3 : Hid _ := c3
  clear c1 c2 c3 e1 e2 e3
  go_enter Try.func9, Try.ntmps9
  go_wp2_with fail
  refine (H1.out _ (row_new w [1, 2, 3, 4, 5] (by decide) b1 _ rfl)).mono ?_
  rintro e w' ⟨rfl, n, rfl⟩
  go_wp2_with fail
  refine (H2.out _).mono ?_
  rintro e w' ⟨rfl, rfl⟩
  go_wp2_with fail
  refine (H3.out _ (row_new _ [255, 255] (by decide) b2 _ (by simp))).mono ?_
  rintro e w' ⟨rfl, m, rfl⟩
  go_wp2_with fail
  go_ret
  exact ⟨rfl, below_drewN (((below_drewN ((Below.refl _ _).alloc (Nat.le_refl _) _) n)).alloc (by simp) _) m⟩
#print axioms known_any
end Go.Proofs.Ytbjnhjdbnliofaa
