/-
  The contracts of wire's Reader, on.
-/
import Derived.Test.YtaiomhhndckccaaRead
namespace Go.Proofs.Ytaiomhhndckccaa
open Go.ChangeShapes Go.WideShapes Go.ChangeAt Go.RowKit
set_option linter.unusedVariables false

theorem rdOut_len (l : List Int) (e : Int) (n : Nat) : (rdOut l e n).length ≤ n := by
  unfold rdOut; split
  · simp; omega
  · simp
theorem rdOut_bytes {l : List Int} (h : Bytes l) (e n : Int) : Bytes (rdOut l e n) := by
  unfold rdOut; split
  · exact h.take _
  · exact Bytes.nil

theorem or_byte (p x : Int) (h0 : 0 ≤ p) (h1 : p < 16777216) (h2 : 0 ≤ x) (h3 : x ≤ 255) : bits .or .u32 (p * 256) x = 256 * p + x := by
  rw [u32_or _ _ (by omega) (by omega) (by omega) (by omega)]
  obtain ⟨a, rfl⟩ := Int.eq_ofNat_of_zero_le h0
  obtain ⟨b, rfl⟩ := Int.eq_ofNat_of_zero_le h2
  have e1 : ((a : Int) * 256).toNat = 2 ^ 8 * a := by omega
  rw [e1, Int.toNat_natCast, ← Nat.two_pow_add_eq_or_of_lt (by omega)]
  omega
theorem pow_le3 (k : Nat) (h : k ≤ 3) : (256 : Int) ^ k ≤ 16777216 := by
  match k, h with
  | 0, _ => decide
  | 1, _ => decide
  | 2, _ => decide
  | 3, _ => decide

/-- What a number read did. -/
def Numb (k : IntKind) (w : World) (g d : Nat) (z : Int) (l : List Int) (e : Int) (E : Ending) (w' : World) : Prop :=
  E = .returned (.int k z) ∧ Rd w' g d l e ∧ Away [g] w w'

set_option maxHeartbeats 400000 in
theorem number_any (w : World) (g d : Nat) (l : List Int) (e n : Int) (hn : 0 ≤ n) (hn4 : n ≤ 4) (h : Rd w g d l e) :
    Calls Try.prog 39 #[.pointer (some ⟨g, 0, none⟩), .int .i64 n] w fun E w' => Numb .u32 w g d (num (rdOut l e n)) (rdRest l e n) (rdErr l e n) E w' := by
  have hm4 : (rdOut l e n).length ≤ 4 := by
    obtain ⟨k, rfl⟩ := Int.eq_ofNat_of_zero_le hn
    have := rdOut_len l e k
    omega
  have key := take_any w g d l e n h
  generalize rdOut l e n = m at *
  generalize rdRest l e n = l' at *
  generalize rdErr l e n = e' at *
  have KEY := key
  clear key
  go_enter Try.func39, Try.ntmps39
  go_wp2_with fail
  refine KEY.mono ?_
  rintro E w1 ⟨a, cap, rfl, hcap, hnone, hrow, hat, hrd, haw⟩
  have hmb := hrow.2.1
  clear KEY
  go_wp2_with fail
  go_loop [5, 12] (fun v i => ∃ k : Nat, k ≤ m.length ∧ i = .int .i64 k ∧ v = .int .u32 (num (m.take k))) (fun _ i => m.length - (intOf i).toNat)
  case atStart => exact ⟨0, by omega, rfl, rfl⟩
  case round =>
    obtain ⟨k, hk, rfl, rfl⟩ := hrel
    by_cases hlt : k < m.length
    · rcases hrow.2.2 with h0 | ⟨b, off, rfl, hcell⟩
      · rw [h0] at hlt; simp at hlt
      · have c0 := hcell k hlt
        have bx := hmb.getD k
        have HS : Hid (num (m.take (k + 1)) = 256 * num (m.take k) + m[k]?.getD 0) := by
          show _ = _
          rw [List.take_succ_eq_append_getElem hlt, num_snoc, List.getElem?_eq_getElem hlt]; rfl
        have hb := num_bd _ (hmb.take k)
        have hb2 : num (m.take k) < 16777216 := by
          have := pow_le3 (m.take k).length (by simp; omega)
          omega
        have hb1 := hb.1
        generalize num (m.take k) = p at *
        generalize m[k]?.getD 0 = x at *
        have bx0 := bx.1
        have bx1 := bx.2
        have hor := or_byte p x hb1 hb2 bx0 bx1
        clear hb hcell bx
        go_wp2_with fail
        exact ⟨⟨k + 1, by omega, by go_num, by rw [HS.out]⟩, by simp [intOf]; omega⟩
    · go_wp2_with fail
      go_ret
      have e0 : m.take k = m := List.take_of_length_le (by omega)
      exact ⟨by rw [e0]; rfl, hrd, haw⟩
theorem num_lt (l : List Int) (e : Int) (n : Nat) (h : Bytes l) : 0 ≤ num (rdOut l e n) ∧ num (rdOut l e n) < 256 ^ n := by
  have h1 := num_bd _ (rdOut_bytes h e n)
  have h2 := rdOut_len l e n
  refine ⟨h1.1, Int.lt_of_lt_of_le h1.2 ?_⟩
  have h3 : ((256 ^ (rdOut l e n).length : Nat) : Int) ≤ ((256 ^ n : Nat) : Int) := Int.ofNat_le.mpr (Nat.pow_le_pow_right (by decide) h2)
  rwa [Int.natCast_pow, Int.natCast_pow] at h3

set_option maxHeartbeats 400000 in
theorem u8_any (w : World) (g d : Nat) (l : List Int) (e : Int) (h : Rd w g d l e) :
    Calls Try.prog 30 #[.pointer (some ⟨g, 0, none⟩)] w fun E w' => Numb .u8 w g d (num (rdOut l e 1)) (rdRest l e 1) (rdErr l e 1) E w' := by
  have hz := num_lt l e 1 h.bytes.1
  have KEY := number_any w g d l e 1 (by omega) (by omega) h
  have hz0 : 0 ≤ num (rdOut l e 1) := hz.1
  have hz1 : num (rdOut l e 1) ≤ 255 := by have := hz.2; simp at this; omega
  clear hz
  generalize num (rdOut l e 1) = z at *
  generalize rdRest l e 1 = l' at *
  generalize rdErr l e 1 = e' at *
  go_enter Try.func30, Try.ntmps30
  go_wp2_with fail
  refine KEY.mono ?_
  rintro E w1 ⟨rfl, hrd, haw⟩
  clear KEY
  go_wp2_with fail
  go_ret
  exact ⟨rfl, hrd, haw⟩
set_option maxHeartbeats 400000 in
theorem u16_any (w : World) (g d : Nat) (l : List Int) (e : Int) (h : Rd w g d l e) :
    Calls Try.prog 12 #[.pointer (some ⟨g, 0, none⟩)] w fun E w' => Numb .u16 w g d (num (rdOut l e 2)) (rdRest l e 2) (rdErr l e 2) E w' := by
  have hz := num_lt l e 2 h.bytes.1
  have KEY := number_any w g d l e 2 (by omega) (by omega) h
  have hz0 : 0 ≤ num (rdOut l e 2) := hz.1
  have hz1 : num (rdOut l e 2) ≤ 65535 := by have := hz.2; simp at this; omega
  clear hz
  generalize num (rdOut l e 2) = z at *
  generalize rdRest l e 2 = l' at *
  generalize rdErr l e 2 = e' at *
  go_enter Try.func12, Try.ntmps12
  go_wp2_with fail
  refine KEY.mono ?_
  rintro E w1 ⟨rfl, hrd, haw⟩
  clear KEY
  go_wp2_with fail
  go_ret
  exact ⟨rfl, hrd, haw⟩
set_option maxHeartbeats 400000 in
theorem u32_any (w : World) (g d : Nat) (l : List Int) (e : Int) (h : Rd w g d l e) :
    Calls Try.prog 13 #[.pointer (some ⟨g, 0, none⟩)] w fun E w' => Numb .u32 w g d (num (rdOut l e 4)) (rdRest l e 4) (rdErr l e 4) E w' := by
  have KEY := number_any w g d l e 4 (by omega) (by omega) h
  generalize num (rdOut l e 4) = z at *
  generalize rdRest l e 4 = l' at *
  generalize rdErr l e 4 = e' at *
  go_enter Try.func13, Try.ntmps13
  go_wp2_with fail
  refine KEY.mono ?_
  rintro E w1 ⟨rfl, hrd, haw⟩
  clear KEY
  go_wp2_with fail
  go_ret
  exact ⟨rfl, hrd, haw⟩
/-- What Bytes did. -/
def Gave (w : World) (g d : Nat) (m l : List Int) (e : Int) (E : Ending) (w' : World) : Prop :=
  ∃ v, E = .returned v ∧ Owns w' v m ∧ New w.heap.size v ∧ Rd w' g d l e ∧ Away [g] w w' ∧ Bytes m ∧ m.length ≤ 140737488355328
set_option maxHeartbeats 400000 in
theorem bytes_any (w : World) (g d : Nat) (l : List Int) (e n : Int) (h : Rd w g d l e) :
    Calls Try.prog 21 #[.pointer (some ⟨g, 0, none⟩), .int .i64 n] w fun E w' => Gave w g d (rdOut l e n) (rdRest l e n) (rdErr l e n) E w' := by
  have KEY := take_any w g d l e n h
  generalize rdOut l e n = m at *
  generalize rdRest l e n = l' at *
  generalize rdErr l e n = e' at *
  go_enter Try.func21, Try.ntmps21
  go_wp2_with fail
  refine KEY.mono ?_
  rintro E w1 ⟨a, cap, rfl, hcap, hnone, hrow, hat, hrd, haw⟩
  clear KEY
  go_wp2_with fail
  refine (clone_any a m cap _ hnone (by exact hrow)).mono ?_
  rintro E w2 ⟨v, rfl, hown, hnew, haw2⟩
  go_wp2_with fail
  go_ret
  have hs := haw.size
  exact ⟨v, rfl, hown, fun k hk => Nat.le_trans hs (hnew k hk), hrd.away haw2 (by simp) (by simp), haw.next haw2 (by simp), hrow.2.1, hrow.1⟩
set_option maxHeartbeats 400000 in
theorem left_any (w : World) (g d : Nat) (l : List Int) (e : Int) (h : Rd w g d l e) :
    Calls Try.prog 14 #[.pointer (some ⟨g, 0, none⟩)] w fun E w' => E = .returned (.int .i64 l.length) ∧ w' = w := by
  obtain ⟨a, cap, hb, hcap, hnone, hrow, hat, hd⟩ := h
  have c0 : w.cell? ⟨g, 0, none⟩ = some (.slice a l.length cap) := by rw [cell_of_block hb]; rfl
  clear hb hrow hat
  go_enter Try.func14, Try.ntmps14
  go_wp2
  go_ret
  exact ⟨rfl, rfl⟩
set_option maxHeartbeats 400000 in
theorem err_any (w : World) (g d : Nat) (l : List Int) (e : Int) (h : Rd w g d l e) :
    Calls Try.prog 28 #[.pointer (some ⟨g, 0, none⟩)] w fun E w' => E = .returned (.int .i64 e) ∧ w' = w := by
  obtain ⟨a, cap, hb, hcap, hnone, hrow, hat, hd⟩ := h
  have c1 : w.cell? ⟨g, 1, none⟩ = some (.int .i64 e) := by rw [cell_of_block hb]; rfl
  clear hb hrow hat
  go_enter Try.func28, Try.ntmps28
  go_wp2
  go_ret
  exact ⟨rfl, rfl⟩
def rdEnd (l : List Int) (e : Int) : Int := if e = 0 ∧ 0 < l.length then 21 else e
set_option maxHeartbeats 400000 in
theorem end_any (w : World) (g d : Nat) (l : List Int) (e : Int) (h : Rd w g d l e) :
    Calls Try.prog 25 #[.pointer (some ⟨g, 0, none⟩)] w fun E w' => E = .returned (.int .i64 (rdEnd l e)) ∧ w' = w := by
  obtain ⟨a, cap, hb, hcap, hnone, hrow, hat, hd⟩ := h
  have c0 : w.cell? ⟨g, 0, none⟩ = some (.slice a l.length cap) := by rw [cell_of_block hb]; rfl
  have c1 : w.cell? ⟨g, 1, none⟩ = some (.int .i64 e) := by rw [cell_of_block hb]; rfl
  clear hb hrow hat
  unfold rdEnd
  by_cases he : e = 0
  · subst he
    by_cases hl : 0 < l.length
    · rw [if_pos ⟨rfl, hl⟩]
      go_enter Try.func25, Try.ntmps25
      go_wp2
      go_ret
      exact ⟨rfl, rfl⟩
    · rw [if_neg (by omega)]
      have hl' : (l.length : Int) ≤ 0 := by omega
      go_enter Try.func25, Try.ntmps25
      go_wp2
      go_ret
      exact ⟨rfl, rfl⟩
  · rw [if_neg (by omega)]
    have b1 : (e == 0) = false := by simp [he]
    go_enter Try.func25, Try.ntmps25
    go_wp2
    go_ret
    exact ⟨rfl, rfl⟩
/-- What NewReader did. -/
def Opened (w : World) (l : List Int) (E : Ending) (w' : World) : Prop :=
  ∃ g d, E = .returned (.pointer (some ⟨g, 0, none⟩)) ∧ Rd w' g d l 0 ∧ w.heap.size ≤ g ∧ w.heap.size ≤ d ∧ Away [] w w'
set_option maxHeartbeats 400000 in
theorem newReader_any (a : Option Addr) (l : List Int) (n cap : Nat) (w : World) (hn : l.length = n) (ha : a = none → cap = 0) (hr : Row w a l) :
    Calls Try.prog 10 #[.slice a n cap] w fun E w' => Opened w l E w' := by
  subst hn
  go_enter Try.func10, Try.ntmps10
  go_wp2_with fail
  refine (clone_any a l cap _ ha (by exact hr)).mono ?_
  rintro E w2 ⟨v, rfl, hown, hnew, haw2⟩
  obtain ⟨a2, cap2, rfl, hcap2, hnone2, hrow2, hblk2, _⟩ := hown.row hr.1 hr.2.1
  have hlt := hown.lt
  clear hown
  go_wp2_with fail
  go_ret
  have hs := haw2.size
  have haw3 : Away [] w2 (w2.alloc (.cells #[.slice a2 l.length cap2, .int .i64 0] 76)) := (Away.refl [] _).alloc _
  refine ⟨w2.heap.size, (match a2 with | none => w2.heap.size | some x => x.block), rfl, ⟨a2, cap2, block_new _ _, hcap2, hnone2, hrow2.away haw3 (by simp), ?_, ?_⟩, hs, ?_, haw2.next haw3 (by simp)⟩
  · intro x hx
    subst hx
    have := hlt x.block rfl
    exact ⟨rfl, by simp; omega⟩
  · cases a2 with
    | none => simp
    | some x => have := hlt x.block rfl; simp; omega
  · cases a2 with
    | none => exact hs
    | some x => exact hnew x.block rfl
#print axioms newReader_any
end Go.Proofs.Ytaiomhhndckccaa
