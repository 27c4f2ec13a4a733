/-
  Options in memory, and the contracts of opts' small functions.
-/
import Derived.Test.YtkccpidgeecemaaGreatDoorSlc
namespace Go.Proofs.YtkccpidgeecemaaGreatDoor
open Go.ChangeShapes Go.WideShapes Go.ChangeAt Go.RowKit
set_option linter.unusedVariables false

def I64 (n : Int) : Prop := -9223372036854775808 ≤ n ∧ n ≤ 9223372036854775807
/-- One option, as it lies in memory. -/
structure V where
  kd : Int
  ba : Option Addr
  bc : Nat
  b : List Int
def V.o (x : V) : O := (x.kd, x.b)
def V.sl (x : V) : Value := .slice x.ba x.b.length x.bc
def V.cells (x : V) : List Value := [.int .i64 x.kd, x.sl]
def V.ok (w : World) (x : V) : Prop := I64 x.kd ∧ Row w x.ba x.b ∧ (x.ba = none → x.bc = 0) ∧ x.b.length ≤ x.bc
theorem V.ok.away {S : List Nat} {w w' : World} {x : V} (h : x.ok w) (hw : Away S w w') (hS : ∀ p, x.ba = some p → p.block ∉ S) : x.ok w' := by
  obtain ⟨h1, h2, h3⟩ := h
  exact ⟨h1, h2.away hw hS, h3⟩
theorem V.ok.on {w w' : World} {x : V} (h : x.ok w) (hw : Away [] w w') : x.ok w' := h.away hw (by simp)
theorem V.ok.drewN {w : World} {x : V} (h : x.ok w) (n : Nat) : x.ok (w.drewN n) := h
/-- Options that can be read. -/
def Opts (w : World) (a : Option Addr) (xs : List V) : Prop :=
  xs.length ≤ 4398046511104 ∧ (∀ x ∈ xs, x.ok w) ∧ (xs = [] ∨ ∃ b off, a = some ⟨b, off, none⟩ ∧ ∀ i x, xs[i]? = some x → w.cell? ⟨b, off + i * 2, none⟩ = some (.int .i64 x.kd) ∧ w.cell? ⟨b, off + i * 2 + 1, none⟩ = some x.sl)
theorem Opts.away {S : List Nat} {w w' : World} {a : Option Addr} {xs : List V} (h : Opts w a xs) (hw : Away S w w') (ha : ∀ p, a = some p → p.block ∉ S) (hd : ∀ x ∈ xs, ∀ p, x.ba = some p → p.block ∉ S) : Opts w' a xs := by
  obtain ⟨h1, h2, h3⟩ := h
  refine ⟨h1, fun x hx => (h2 x hx).away hw (hd x hx), ?_⟩
  rcases h3 with h3 | ⟨b, off, rfl, hc⟩
  · exact .inl h3
  · exact .inr ⟨b, off, rfl, fun i x hx => ⟨hw.cell (ha _ rfl) (hc i x hx).1, hw.cell (ha _ rfl) (hc i x hx).2⟩⟩
theorem Opts.on {w w' : World} {a : Option Addr} {xs : List V} (h : Opts w a xs) (hw : Away [] w w') : Opts w' a xs := h.away hw (by simp) (by simp)
theorem Opts.drewN {w : World} {a : Option Addr} {xs : List V} (h : Opts w a xs) (n : Nat) : Opts (w.drewN n) a xs := h
theorem Opts.nil (w : World) (a : Option Addr) : Opts w a [] := ⟨by simp, by simp, .inl rfl⟩

/-- A list of the program's own. -/
def Lst (w : World) (v : Value) (xs : List V) : Prop := w.ownsRow 0 117 2 v xs.length (xs.flatMap V.cells)
theorem flat_get : ∀ (xs : List V) (i : Nat) (x : V), xs[i]? = some x → (xs.flatMap V.cells)[i * 2]? = some (.int .i64 x.kd) ∧ (xs.flatMap V.cells)[i * 2 + 1]? = some x.sl
  | y :: r, 0, x, h => by simp at h; subst h; simp [V.cells]
  | y :: r, i + 1, x, h => by
    have := flat_get r i x (by simpa using h)
    rw [List.flatMap_cons, List.getElem?_append_right (by simp [V.cells]; omega), List.getElem?_append_right (by simp [V.cells]; omega)]
    rw [show (i + 1) * 2 - y.cells.length = i * 2 from by simp [V.cells]; omega, show (i + 1) * 2 + 1 - y.cells.length = i * 2 + 1 from by simp [V.cells]; omega]
    exact this
theorem flat_two (xs : List V) : (xs.flatMap V.cells).length = xs.length * 2 := by
  induction xs with
  | nil => rfl
  | cons x r ih => rw [List.flatMap_cons, List.length_append, ih]; simp [V.cells]; omega
theorem Lst.away {S : List Nat} {w w' : World} {v : Value} {xs : List V} (h : Lst w v xs) (hw : Away S w w') (ha : ∀ k, v.ownBlock = some k → k ∉ S) : Lst w' v xs := by
  obtain ⟨h1, h2⟩ := h
  refine ⟨h1, ?_⟩
  rcases h2 with h2 | ⟨g, cap, cur, rfl, hg, hh, r⟩
  · exact .inl h2
  · exact .inr ⟨g, cap, cur, rfl, hg, hw.keep (ha g rfl) hh, r⟩
theorem Lst.nil (w : World) : Lst w (.slice none 0 0) [] := World.ownsRow_nil _ _ _ _
theorem Lst.lt {w : World} {v : Value} {xs : List V} (h : Lst w v xs) : ∀ k, v.ownBlock = some k → k < w.heap.size := fun k hk => (World.ownsRow.lt h k hk).2
theorem Lst.opts {w : World} {v : Value} {xs : List V} (h : Lst w v xs) (hl : xs.length ≤ 4398046511104) (hok : ∀ x ∈ xs, x.ok w) :
    ∃ a cap, v = .slice a xs.length cap ∧ xs.length ≤ cap ∧ (a = none → cap = 0) ∧ Opts w a xs ∧ (∀ p, a = some p → v.ownBlock = some p.block ∧ p.off = 0 ∧ p.spot = none) := by
  have h0 := h
  rcases h.2 with ⟨rfl, h2⟩ | ⟨g, cap, cur, rfl, hg, hh, hn, hc, hs, ht⟩
  · have : xs = [] := by simpa using h2
    subst this
    exact ⟨none, 0, rfl, Nat.le_refl _, fun _ => rfl, Opts.nil _ _, by simp⟩
  · refine ⟨some ⟨g, 0, none⟩, cap, rfl, hn, by simp, ⟨hl, hok, .inr ⟨g, 0, rfl, fun i x hx => ?_⟩⟩, by simp [Value.ownBlock]⟩
    have hi : i < xs.length := by
      rcases Nat.lt_or_ge i xs.length with h | h
      · exact h
      · rw [List.getElem?_eq_none h] at hx; simp at hx
    have := flat_get xs i x hx
    rw [Nat.zero_add, World.ownsRow.cellAt h0 (i * 2) (by omega), World.ownsRow.cellAt h0 (i * 2 + 1) (by omega)]
    exact this
theorem flat_snoc (xs : List V) (x : V) : (xs ++ [x]).flatMap V.cells = xs.flatMap V.cells ++ [.int .i64 x.kd, x.sl] := by simp [V.cells]
theorem Lst.snoc {w : World} {v : Value} {xs : List V} {x : V} (h : w.ownsRow 0 117 2 v (xs.length + 1) (xs.flatMap V.cells ++ [.int .i64 x.kd, x.sl])) : Lst w v (xs ++ [x]) := by
  unfold Lst
  rw [List.length_append, flat_snoc]
  exact h

/-- What Parse makes: a list of its own, every Data too. -/
structure Made (w : World) (B : Nat) (v : Value) (xs : List V) : Prop where
  lst : Lst w v xs
  new : New B v
  each : ∀ x ∈ xs, I64 x.kd ∧ Owns w x.sl x.b ∧ Bytes x.b ∧ x.b.length ≤ 140737488355328 ∧ New B x.sl
  far : ∀ x ∈ xs, ∀ k, x.sl.ownBlock = some k → v.ownBlock ≠ some k
  apart : xs.Pairwise (fun x y => ∀ k, x.sl.ownBlock = some k → y.sl.ownBlock ≠ some k)
theorem Made.nil (w : World) (B : Nat) : Made w B (.slice none 0 0) [] := ⟨Lst.nil w, New.nil B, by simp, by simp, .nil⟩
theorem Made.away {S : List Nat} {w w' : World} {B : Nat} {v : Value} {xs : List V} (h : Made w B v xs) (hw : Away S w w') (ha : ∀ k, v.ownBlock = some k → k ∉ S) (hd : ∀ x ∈ xs, ∀ k, x.sl.ownBlock = some k → k ∉ S) : Made w' B v xs :=
  ⟨h.lst.away hw ha, h.new, fun x hx => by obtain ⟨h1, h2, h3⟩ := h.each x hx; exact ⟨h1, h2.away hw (hd x hx), h3⟩, h.far, h.apart⟩
theorem Made.on {w w' : World} {B : Nat} {v : Value} {xs : List V} (h : Made w B v xs) (hw : Away [] w w') : Made w' B v xs := h.away hw (by simp) (by simp)
theorem Made.ok {w : World} {B : Nat} {v : Value} {xs : List V} (h : Made w B v xs) : ∀ x ∈ xs, x.ok w := fun x hx => by
  obtain ⟨h1, h2, h3, h4, h5⟩ := h.each x hx
  obtain ⟨a, cap, hv, hc, hn, hr, _⟩ := h2.row h4 h3
  simp only [V.sl, Value.slice.injEq] at hv
  obtain ⟨e1, _, e3⟩ := hv
  exact ⟨h1, by rw [e1]; exact hr, by rw [e1, e3]; exact hn, by rw [e3]; exact hc⟩
theorem Made.opts {w : World} {B : Nat} {v : Value} {xs : List V} (h : Made w B v xs) (hl : xs.length ≤ 4398046511104) :
    ∃ a cap, v = .slice a xs.length cap ∧ xs.length ≤ cap ∧ (a = none → cap = 0) ∧ Opts w a xs ∧ (∀ p, a = some p → v.ownBlock = some p.block ∧ p.off = 0 ∧ p.spot = none) := h.lst.opts hl h.ok
theorem Made.drewN {w : World} {B : Nat} {v : Value} {xs : List V} (h : Made w B v xs) (n : Nat) : Made (w.drewN n) B v xs := h.on ((Away.refl [] w).drewN n)

/-! dataOf. -/
set_option maxHeartbeats 400000 in
theorem data_short (a : Option Addr) (l : List Int) (n cap : Nat) (w : World) (hn : l.length = n) (hs : n < 2) :
    Calls Tryz.prog 77 #[.slice a n cap] w fun E w' => E = .returned (.tuple #[.slice none 0 0, .bool false]) ∧ w' = w := by
  go_enter Tryz.func77, Tryz.ntmps77
  go_wp2
  go_ret2
  exact ⟨rfl, rfl⟩
set_option maxHeartbeats 400000 in
theorem data_no (a : Option Addr) (k y : Int) (s : List Int) (n cap : Nat) (w : World) (hn : s.length + 2 = n) (hr : Row w a (k :: y :: s)) (hno : ¬ (2 ≤ y ∧ y.toNat ≤ s.length + 2)) :
    Calls Tryz.prog 77 #[.slice a n cap] w fun E w' => E = .returned (.tuple #[.slice none 0 0, .bool false]) ∧ w' = w := by
  subst hn
  have hlen := hr.1
  have hy := hr.2.1.tail.head
  rcases hr.2.2 with h0 | ⟨b, off, rfl, hcell⟩
  · simp at h0
  · have c1 : w.cell? ⟨b, off + 1, none⟩ = some (.int .u8 y) := by simpa using hcell 1 (by simp)
    clear hcell hr
    simp only [List.length_cons] at hlen
    by_cases h2 : y < 2
    · clear hno
      go_enter Tryz.func77, Tryz.ntmps77
      go_wp2
      go_ret2
      exact ⟨rfl, rfl⟩
    · have h3 : (s.length : Int) + 2 < y := by omega
      clear hno
      go_enter Tryz.func77, Tryz.ntmps77
      go_wp2
      go_ret2
      exact ⟨rfl, rfl⟩
def DataOut (w : World) (l : List Int) (E : Ending) (w' : World) : Prop := w' = w ∧ ∃ A c, E = .returned (.tuple #[.slice (some A) l.length c, .bool true]) ∧ Row w (some A) l
set_option maxHeartbeats 400000 in
theorem data_yes (a : Option Addr) (k y : Int) (s : List Int) (n cap : Nat) (w : World) (hn : s.length + 2 = n) (hcap : n ≤ cap) (hr : Row w a (k :: y :: s)) (h2 : 2 ≤ y) (h3 : y.toNat ≤ s.length + 2) :
    Calls Tryz.prog 77 #[.slice a n cap] w fun E w' => DataOut w (s.take (y.toNat - 2)) E w' := by
  subst hn
  have hlen := hr.1
  have hy := hr.2.1.tail.head
  rcases hr.2.2 with h0 | ⟨b, off, rfl, hcell⟩
  · simp at h0
  · have c1 : w.cell? ⟨b, off + 1, none⟩ = some (.int .u8 y) := by simpa using hcell 1 (by simp)
    have HR : Hid (Row w (if cap = 2 then some ⟨b, off, none⟩ else (some (⟨b, off, none⟩ : Addr)).map (·.add 2)) (s.take (y.toNat - 2))) := by
      have := hr.sub 2 (y.toNat - 2) cap (by simpa using hcap) (by simp)
      show Row _ _ _
      simpa using this
    obtain ⟨A, hA⟩ : ∃ A, (if cap = 2 then some ⟨b, off, none⟩ else (some (⟨b, off, none⟩ : Addr)).map (·.add 2)) = some A := by
      split
      · exact ⟨_, rfl⟩
      · exact ⟨_, rfl⟩
    rw [hA] at HR
    have hs := slice_lh (some ⟨b, off, none⟩) (some A) (s.length + 2) cap 2 (y.toNat - 2) 2 y hA.symm rfl (by omega) (by omega)
    simp only [List.length_cons] at hlen
    have hL : (s.take (y.toNat - 2)).length = y.toNat - 2 := by simp; omega
    have HL : Hid ((s.take (y.toNat - 2)).length = y.toNat - 2) := hL
    clear hcell hr hA hL
    generalize s.take (y.toNat - 2) = t at *
    generalize y.toNat - 2 = m at *
    go_enter Tryz.func77, Tryz.ntmps77
    go_wp2
    go_ret2
    exact ⟨rfl, A, cap - 2, by rw [HL.out]; rfl, HR.out⟩

/-! The small functions over one option. -/
end Go.Proofs.YtkccpidgeecemaaGreatDoor
