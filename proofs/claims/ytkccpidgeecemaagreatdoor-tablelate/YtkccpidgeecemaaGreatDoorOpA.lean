/-
  Parse.
-/
import Derived.Test.YtkccpidgeecemaaGreatDoorPktA
import Derived.WalkMore
namespace Go.Proofs.YtkccpidgeecemaaGreatDoor
open Go.ChangeShapes Go.WideShapes Go.ChangeAt Go.RowKit
set_option linter.unusedVariables false
def I64 (n : Int) : Prop := -9223372036854775808 ≤ n ∧ n ≤ 9223372036854775807
structure V where
  kd : Int
  ba : Option Addr
  bc : Nat
  b : List Int
def V.o (x : V) : O := (x.kd, x.b)
def V.sl (x : V) : Value := .slice x.ba x.b.length x.bc
def V.cells (x : V) : List Value := [.int .i64 x.kd, x.sl]
def V.ok (w : World) (x : V) : Prop := I64 x.kd ∧ Row w x.ba x.b ∧ (x.ba = none → x.bc = 0) ∧ x.b.length ≤ x.bc
theorem V.ok.away {S : List Nat} {w w' : World} {x : V} (h : x.ok w) (hw : Away S w w') (hS : ∀ p, x.ba = some p → p.block ∉ S) : x.ok w' := by
  obtain ⟨h1, h2, h3⟩ := h
  exact ⟨h1, h2.away hw hS, h3⟩
theorem V.ok.on {w w' : World} {x : V} (h : x.ok w) (hw : Away [] w w') : x.ok w' := h.away hw (by simp)
theorem V.ok.drewN {w : World} {x : V} (h : x.ok w) (n : Nat) : x.ok (w.drewN n) := h
def Opts (w : World) (a : Option Addr) (xs : List V) : Prop :=
  xs.length ≤ 4398046511104 ∧ (∀ x ∈ xs, x.ok w) ∧ (xs = [] ∨ ∃ b off, a = some ⟨b, off, none⟩ ∧ ∀ i x, xs[i]? = some x → w.cell? ⟨b, off + i * 2, none⟩ = some (.int .i64 x.kd) ∧ w.cell? ⟨b, off + i * 2 + 1, none⟩ = some x.sl)
theorem Opts.away {S : List Nat} {w w' : World} {a : Option Addr} {xs : List V} (h : Opts w a xs) (hw : Away S w w') (ha : ∀ p, a = some p → p.block ∉ S) (hd : ∀ x ∈ xs, ∀ p, x.ba = some p → p.block ∉ S) : Opts w' a xs := by
  obtain ⟨h1, h2, h3⟩ := h
  refine ⟨h1, fun x hx => (h2 x hx).away hw (hd x hx), ?_⟩
  rcases h3 with h3 | ⟨b, off, rfl, hc⟩
  · exact .inl h3
  · exact .inr ⟨b, off, rfl, fun i x hx => ⟨hw.cell (ha _ rfl) (hc i x hx).1, hw.cell (ha _ rfl) (hc i x hx).2⟩⟩
theorem Opts.on {w w' : World} {a : Option Addr} {xs : List V} (h : Opts w a xs) (hw : Away [] w w') : Opts w' a xs := h.away hw (by simp) (by simp)
theorem Opts.drewN {w : World} {a : Option Addr} {xs : List V} (h : Opts w a xs) (n : Nat) : Opts (w.drewN n) a xs := h
theorem Opts.nil (w : World) (a : Option Addr) : Opts w a [] := ⟨by simp, by simp, .inl rfl⟩
def Lst (w : World) (v : Value) (xs : List V) : Prop := w.ownsRow 0 117 2 v xs.length (xs.flatMap V.cells)
theorem flat_get : ∀ (xs : List V) (i : Nat) (x : V), xs[i]? = some x → (xs.flatMap V.cells)[i * 2]? = some (.int .i64 x.kd) ∧ (xs.flatMap V.cells)[i * 2 + 1]? = some x.sl
  | y :: r, 0, x, h => by simp at h; subst h; simp [V.cells]
  | y :: r, i + 1, x, h => by
    have := flat_get r i x (by simpa using h)
    rw [List.flatMap_cons, List.getElem?_append_right (by simp [V.cells]; omega), List.getElem?_append_right (by simp [V.cells]; omega)]
    rw [show (i + 1) * 2 - y.cells.length = i * 2 from by simp [V.cells]; omega, show (i + 1) * 2 + 1 - y.cells.length = i * 2 + 1 from by simp [V.cells]; omega]
    exact this
theorem flat_two (xs : List V) : (xs.flatMap V.cells).length = xs.length * 2 := by
  induction xs with
  | nil => rfl
  | cons x r ih => rw [List.flatMap_cons, List.length_append, ih]; simp [V.cells]; omega
theorem Lst.away {S : List Nat} {w w' : World} {v : Value} {xs : List V} (h : Lst w v xs) (hw : Away S w w') (ha : ∀ k, v.ownBlock = some k → k ∉ S) : Lst w' v xs := by
  obtain ⟨h1, h2⟩ := h
  refine ⟨h1, ?_⟩
  rcases h2 with h2 | ⟨g, cap, cur, rfl, hg, hh, r⟩
  · exact .inl h2
  · exact .inr ⟨g, cap, cur, rfl, hg, hw.keep (ha g rfl) hh, r⟩
theorem Lst.nil (w : World) : Lst w (.slice none 0 0) [] := World.ownsRow_nil _ _ _ _
theorem Lst.lt {w : World} {v : Value} {xs : List V} (h : Lst w v xs) : ∀ k, v.ownBlock = some k → k < w.heap.size := fun k hk => (World.ownsRow.lt h k hk).2
theorem Lst.opts {w : World} {v : Value} {xs : List V} (h : Lst w v xs) (hl : xs.length ≤ 4398046511104) (hok : ∀ x ∈ xs, x.ok w) :
    ∃ a cap, v = .slice a xs.length cap ∧ xs.length ≤ cap ∧ (a = none → cap = 0) ∧ Opts w a xs ∧ (∀ p, a = some p → v.ownBlock = some p.block ∧ p.off = 0 ∧ p.spot = none) := by
  have h0 := h
  rcases h.2 with ⟨rfl, h2⟩ | ⟨g, cap, cur, rfl, hg, hh, hn, hc, hs, ht⟩
  · have : xs = [] := by simpa using h2
    subst this
    exact ⟨none, 0, rfl, Nat.le_refl _, fun _ => rfl, Opts.nil _ _, by simp⟩
  · refine ⟨some ⟨g, 0, none⟩, cap, rfl, hn, by simp, ⟨hl, hok, .inr ⟨g, 0, rfl, fun i x hx => ?_⟩⟩, by simp [Value.ownBlock]⟩
    have hi : i < xs.length := by
      rcases Nat.lt_or_ge i xs.length with h | h
      · exact h
      · rw [List.getElem?_eq_none h] at hx; simp at hx
    have := flat_get xs i x hx
    rw [Nat.zero_add, World.ownsRow.cellAt h0 (i * 2) (by omega), World.ownsRow.cellAt h0 (i * 2 + 1) (by omega)]
    exact this
theorem flat_snoc (xs : List V) (x : V) : (xs ++ [x]).flatMap V.cells = xs.flatMap V.cells ++ [.int .i64 x.kd, x.sl] := by simp [V.cells]
theorem Lst.snoc {w : World} {v : Value} {xs : List V} {x : V} (h : w.ownsRow 0 117 2 v (xs.length + 1) (xs.flatMap V.cells ++ [.int .i64 x.kd, x.sl])) : Lst w v (xs ++ [x]) := by
  unfold Lst
  rw [List.length_append, flat_snoc]
  exact h
structure Made (w : World) (B : Nat) (v : Value) (xs : List V) : Prop where
  lst : Lst w v xs
  new : New B v
  each : ∀ x ∈ xs, I64 x.kd ∧ Owns w x.sl x.b ∧ Bytes x.b ∧ x.b.length ≤ 140737488355328 ∧ New B x.sl
  far : ∀ x ∈ xs, ∀ k, x.sl.ownBlock = some k → v.ownBlock ≠ some k
  apart : xs.Pairwise (fun x y => ∀ k, x.sl.ownBlock = some k → y.sl.ownBlock ≠ some k)
theorem Made.nil (w : World) (B : Nat) : Made w B (.slice none 0 0) [] := ⟨Lst.nil w, New.nil B, by simp, by simp, .nil⟩
theorem Made.away {S : List Nat} {w w' : World} {B : Nat} {v : Value} {xs : List V} (h : Made w B v xs) (hw : Away S w w') (ha : ∀ k, v.ownBlock = some k → k ∉ S) (hd : ∀ x ∈ xs, ∀ k, x.sl.ownBlock = some k → k ∉ S) : Made w' B v xs :=
  ⟨h.lst.away hw ha, h.new, fun x hx => by obtain ⟨h1, h2, h3⟩ := h.each x hx; exact ⟨h1, h2.away hw (hd x hx), h3⟩, h.far, h.apart⟩
theorem Made.on {w w' : World} {B : Nat} {v : Value} {xs : List V} (h : Made w B v xs) (hw : Away [] w w') : Made w' B v xs := h.away hw (by simp) (by simp)
theorem Made.ok {w : World} {B : Nat} {v : Value} {xs : List V} (h : Made w B v xs) : ∀ x ∈ xs, x.ok w := fun x hx => by
  obtain ⟨h1, h2, h3, h4, h5⟩ := h.each x hx
  obtain ⟨a, cap, hv, hc, hn, hr, _⟩ := h2.row h4 h3
  simp only [V.sl, Value.slice.injEq] at hv
  obtain ⟨e1, _, e3⟩ := hv
  exact ⟨h1, by rw [e1]; exact hr, by rw [e1, e3]; exact hn, by rw [e3]; exact hc⟩
theorem Made.opts {w : World} {B : Nat} {v : Value} {xs : List V} (h : Made w B v xs) (hl : xs.length ≤ 4398046511104) :
    ∃ a cap, v = .slice a xs.length cap ∧ xs.length ≤ cap ∧ (a = none → cap = 0) ∧ Opts w a xs ∧ (∀ p, a = some p → v.ownBlock = some p.block ∧ p.off = 0 ∧ p.spot = none) := h.lst.opts hl h.ok
theorem Made.drewN {w : World} {B : Nat} {v : Value} {xs : List V} (h : Made w B v xs) (n : Nat) : Made (w.drewN n) B v xs := h.on ((Away.refl [] w).drewN n)
/-! dataOf. -/
set_option maxHeartbeats 400000 in
theorem data_short (a : Option Addr) (l : List Int) (n cap : Nat) (w : World) (hn : l.length = n) (hs : n < 2) :
    Calls Tryz.prog 77 #[.slice a n cap] w fun E w' => E = .returned (.tuple #[.slice none 0 0, .bool false]) ∧ w' = w := by
  go_enter Tryz.func77, Tryz.ntmps77
  go_wp2
  go_ret2
  exact ⟨rfl, rfl⟩
set_option maxHeartbeats 400000 in
theorem data_no (a : Option Addr) (k y : Int) (s : List Int) (n cap : Nat) (w : World) (hn : s.length + 2 = n) (hr : Row w a (k :: y :: s)) (hno : ¬ (2 ≤ y ∧ y.toNat ≤ s.length + 2)) :
    Calls Tryz.prog 77 #[.slice a n cap] w fun E w' => E = .returned (.tuple #[.slice none 0 0, .bool false]) ∧ w' = w := by
  subst hn
  have hlen := hr.1
  have hy := hr.2.1.tail.head
  rcases hr.2.2 with h0 | ⟨b, off, rfl, hcell⟩
  · simp at h0
  · have c1 : w.cell? ⟨b, off + 1, none⟩ = some (.int .u8 y) := by simpa using hcell 1 (by simp)
    clear hcell hr
    simp only [List.length_cons] at hlen
    by_cases h2 : y < 2
    · clear hno
      go_enter Tryz.func77, Tryz.ntmps77
      go_wp2
      go_ret2
      exact ⟨rfl, rfl⟩
    · have h3 : (s.length : Int) + 2 < y := by omega
      clear hno
      go_enter Tryz.func77, Tryz.ntmps77
      go_wp2
      go_ret2
      exact ⟨rfl, rfl⟩
def DataOut (w : World) (l : List Int) (E : Ending) (w' : World) : Prop := w' = w ∧ ∃ A c, E = .returned (.tuple #[.slice (some A) l.length c, .bool true]) ∧ Row w (some A) l
set_option maxHeartbeats 400000 in
theorem data_yes (a : Option Addr) (k y : Int) (s : List Int) (n cap : Nat) (w : World) (hn : s.length + 2 = n) (hcap : n ≤ cap) (hr : Row w a (k :: y :: s)) (h2 : 2 ≤ y) (h3 : y.toNat ≤ s.length + 2) :
    Calls Tryz.prog 77 #[.slice a n cap] w fun E w' => DataOut w (s.take (y.toNat - 2)) E w' := by
  subst hn
  have hlen := hr.1
  have hy := hr.2.1.tail.head
  rcases hr.2.2 with h0 | ⟨b, off, rfl, hcell⟩
  · simp at h0
  · have c1 : w.cell? ⟨b, off + 1, none⟩ = some (.int .u8 y) := by simpa using hcell 1 (by simp)
    have HR : Hid (Row w (if cap = 2 then some ⟨b, off, none⟩ else (some (⟨b, off, none⟩ : Addr)).map (·.add 2)) (s.take (y.toNat - 2))) := by
      have := hr.sub 2 (y.toNat - 2) cap (by simpa using hcap) (by simp)
      show Row _ _ _
      simpa using this
    obtain ⟨A, hA⟩ : ∃ A, (if cap = 2 then some ⟨b, off, none⟩ else (some (⟨b, off, none⟩ : Addr)).map (·.add 2)) = some A := by
      split
      · exact ⟨_, rfl⟩
      · exact ⟨_, rfl⟩
    rw [hA] at HR
    have hs := slice_lh (some ⟨b, off, none⟩) (some A) (s.length + 2) cap 2 (y.toNat - 2) 2 y hA.symm rfl (by omega) (by omega)
    simp only [List.length_cons] at hlen
    have hL : (s.take (y.toNat - 2)).length = y.toNat - 2 := by simp; omega
    have HL : Hid ((s.take (y.toNat - 2)).length = y.toNat - 2) := hL
    clear hcell hr hA hL
    generalize s.take (y.toNat - 2) = t at *
    generalize y.toNat - 2 = m at *
    go_enter Tryz.func77, Tryz.ntmps77
    go_wp2
    go_ret2
    exact ⟨rfl, A, cap - 2, by rw [HL.out]; rfl, HR.out⟩
/-! The small functions over one option. -/
def OParseOut (w : World) (l : List Int) (E : Ending) (w' : World) : Prop :=
  Away [] w w' ∧ ((parseP l = none ∧ E = .returned (.tuple #[.slice none 0 0, .int .i64 40])) ∨
    ∃ v xs, parseP l = some (xs.map V.o) ∧ E = .returned (.tuple #[v, .int .i64 0]) ∧ Made w' w.heap.size v xs ∧ xs.length ≤ l.length)
theorem Made.snoc {w w' : World} {B : Nat} {v v' : Value} {xs : List V} {x : V} (h : Made w B v xs) (hB : B ≤ w.heap.size) (hgr : w.grownBy w' v.ownBlock) (hm : Moved w v v') (hl : Lst w' v' (xs ++ [x]))
    (h1 : I64 x.kd) (h2 : Owns w x.sl x.b) (h3 : Bytes x.b) (h4 : x.b.length ≤ 140737488355328) (h5 : New B x.sl) (h6 : ∀ k, x.sl.ownBlock = some k → v.ownBlock ≠ some k ∧ ∀ y ∈ xs, y.sl.ownBlock ≠ some k) : Made w' B v' (xs ++ [x]) := by
  have hA : Away v.ownBlock.toList w w' := ⟨hgr.os, hgr.tape, hgr.output, hgr.size, fun i hi hn => hgr.block i hi (fun e => hn (by rw [← e]; simp))⟩
  have hlt : ∀ y ∈ xs ++ [x], ∀ k, y.sl.ownBlock = some k → k < w.heap.size := by
    intro y hy k hk
    rcases List.mem_append.1 hy with hy | hy
    · exact (h.each y hy).2.1.lt k hk
    · simp at hy; subst hy; exact h2.lt k hk
  have hfar : ∀ y ∈ xs ++ [x], ∀ k, y.sl.ownBlock = some k → v.ownBlock ≠ some k := by
    intro y hy k hk
    rcases List.mem_append.1 hy with hy | hy
    · exact h.far y hy k hk
    · simp at hy; subst hy; exact (h6 k hk).1
  refine ⟨hl, h.new.moved hm hB, fun y hy => ?_, fun y hy k hk => ?_, ?_⟩
  · have hS : ∀ k, y.sl.ownBlock = some k → k ∉ v.ownBlock.toList := fun k hk hm => hfar y hy k hk (by simpa using hm)
    rcases List.mem_append.1 hy with hy | hy
    · obtain ⟨a1, a2, a3, a4, a5⟩ := h.each y hy
      exact ⟨a1, a2.away hA hS, a3, a4, a5⟩
    · simp at hy; subst hy
      exact ⟨h1, h2.away hA hS, h3, h4, h5⟩
  · intro e
    rcases hm k e with e | e
    · exact hfar y hy k hk e
    · have := hlt y hy k hk
      omega
  · rw [List.pairwise_append]
    refine ⟨h.apart, by simp, fun y hy z hz k hk e => ?_⟩
    simp at hz; subst hz
    exact (h6 k e).2 y hy hk
theorem parse_none {l : List Int} {k : Nat} {os : List O} (hp : parseP l = (parseP (l.drop k)).map (os ++ ·)) (h : parseP (l.drop k) = none) : parseP l = none := by rw [hp, h]; rfl
set_option maxHeartbeats 2000000 in
theorem oparse_c (a : Option Addr) (l : List Int) (n cap : Nat) (w : World) (hn : l.length = n) (hcap : n ≤ cap) (hsz : n ≤ 4398046511104) (hr : Row w a l) (hg : Glob w) :
    Calls Tryz.prog 64 #[.slice a n cap] w fun E w' => OParseOut w l E w' := by
  subst hn
  have hlen := hr.1
  have hlb := hr.2.1
  have HG : Hid (Glob w) := hg
  clear hg
  go_enter Tryz.func64, Tryz.ntmps64
  go_wp2_with fail
  go_step3
  go_wp2_with fail
  go_step3
  go_wp2_with fail
  go_loopw [4, 5] (fun v i wr => ∃ (k : Nat) (xs : List V), k ≤ l.length ∧ i = .int .i64 k ∧ Made wr w.heap.size v xs ∧ xs.length ≤ k ∧ Away [] w wr ∧ parseP l = (parseP (l.drop k)).map (xs.map V.o ++ ·)) (fun _ i _ => l.length - (intOf i).toNat)
  case atStart => exact ⟨0, [], by omega, rfl, Made.nil _ _, by simp, Away.refl _ _, by simp⟩
  case round =>
    obtain ⟨k, xs, hk, rfl, hmade, hxk, haw, hp⟩ := hrel
    have HP : Hid (parseP l = (parseP (l.drop k)).map (xs.map V.o ++ ·)) := hp
    clear hp
    have hsw := haw.size
    by_cases hlt : k < l.length
    · have hrr := hr.away haw (by simp)
      have hgr := HG.out.on haw
      have HGR : Hid (Glob wr) := hgr
      clear hgr
      rcases hrr.2.2 with h0 | ⟨b, off, rfl, hcell⟩
      · rw [h0] at hlt; simp at hlt
      · have c0 := hcell k hlt
        have bx := hlb.getD k
        have hcons : l.drop k = l[k]?.getD 0 :: l.drop (k + 1) := by rw [List.drop_eq_getElem_cons hlt, List.getElem?_eq_getElem hlt]; rfl
        generalize hx : l[k]?.getD 0 = x at *
        clear hx
        have HT : Hid (Row wr (if cap = k then some ⟨b, off, none⟩ else (some (⟨b, off, none⟩ : Addr)).map (·.add k)) (l.drop k)) := hrr.tail k cap hcap (by omega)
        generalize hA : (if cap = k then some ⟨b, off, none⟩ else (some (⟨b, off, none⟩ : Addr)).map (·.add k)) = A at *
        have hsl := slice_l (some ⟨b, off, none⟩) A l.length cap k k hA.symm rfl (by omega)
        clear hcell hrr hA
        have hdl : (l.drop k).length = l.length - k := by simp
        have HDL : Hid ((l.drop k).length = l.length - k) := hdl
        have HC : Hid (l.drop k = x :: l.drop (k + 1)) := hcons
        clear hdl hcons
        by_cases h0 : x = 0
        · subst h0
          go_wp2_with fail
          refine (shape_c 0 _ (by omega) (by exact HGR.out)).mono ?_
          rintro E w' ⟨rfl, rfl⟩
          rw [show shapeP 0 = 0 from by decide]
          go_wp2_with fail
          refine (blank_c A (l.drop k) _ _ _ HDL.out (by exact HT.out)).mono ?_
          rintro E w' ⟨rfl, rfl⟩
          have HZ : Hid (parseP (l.drop k) = if zerosP (l.drop k) = true then some [] else none) := by
            show _ = _
            rw [HC.out, parseP_zero, zerosP_cons]; simp
          generalize zerosP (l.drop k) = z at *
          cases z
          · go_wp2_with fail
            go_ret2
            exact ⟨haw, .inl ⟨parse_none HP.out (by rw [HZ.out]; rfl), rfl⟩⟩
          · go_wp2_with fail
            go_ret2
            exact ⟨haw, .inr ⟨_, xs, by rw [HP.out, HZ.out]; simp, rfl, hmade, by omega⟩⟩
        · by_cases h1 : x = 1
          · subst h1
            have HZ : Hid (parseP (l.drop k) = (parseP (l.drop (k + 1))).map ((1, []) :: ·)) := by
              show _ = _
              rw [HC.out, parseP_one]
            go_wp2_with fail
            refine (shape_c 1 _ (by omega) (by exact HGR.out)).mono ?_
            rintro E w' ⟨rfl, rfl⟩
            rw [show shapeP 1 = 1 from by decide]
            go_wp2_with (at_builtin; refine wpList_app2 rfl _ _ rfl _ xs.length (xs.flatMap V.cells) rfl (by exact (hmade.lst.away ((Away.refl [] _).alloc _) (by simp))) ⟨_, 0, none⟩ 1 rfl (.int .i64 1) (.slice none 0 0) (by rw [World.cell?_alloc_at (hn := rfl)]; rfl) (by rw [add_plain, World.cell?_alloc_at (hn := rfl)]; rfl) rfl rfl (by omega) ?_)
            intro v' w2 hown2 hgr hmov
            have hm1 := hmade.on ((Away.refl [] _).alloc (.cells #[.int .i64 1, .slice none 0 0] 117))
            have hm2 := hm1.snoc (x := ⟨1, none, 0, []⟩) (by simp; omega) hgr hmov (Lst.snoc hown2) (by unfold I64; simp) (Owns.nil _) Bytes.nil (by simp) (New.nil _) (by simp [V.sl, Value.ownBlock])
            have haw2 : Away [] w w2 := (haw.alloc _).grown hgr (fun k hk => .inr (hmade.new k hk))
            clear hgr hmov hm1 hown2
            go_wp2_with fail
            go_roundw
            case rel => exact ⟨k + 1, xs ++ [⟨1, none, 0, []⟩], by omega, by go_num, hm2, by simp; omega, haw2, by rw [HP.out, HZ.out]; cases parseP (l.drop (k + 1)) <;> simp [V.o]⟩
            case measure => simp [intOf]; omega
          · have hS : shapeP x = 2 := by unfold shapeP; rw [if_neg (by omega)]
            go_wp2_with fail
            refine (shape_c x _ (by omega) (by exact HGR.out)).mono ?_
            rintro E w' ⟨rfl, rfl⟩
            rw [hS]
            clear hS
            by_cases hlong : k + 1 < l.length
            · obtain ⟨y, s, hys⟩ : ∃ y s, l.drop (k + 1) = y :: s := ⟨l[k + 1], l.drop (k + 2), List.drop_eq_getElem_cons hlong⟩
              have hsl2 : s.length + 2 = l.length - k := by
                have := congrArg List.length hys
                simp at this; omega
              have HC2 : Hid (l.drop k = x :: y :: s) := by show _ = _; rw [HC.out, hys]
              have hyb : 0 ≤ y ∧ y ≤ 255 := by
                have := hlb.drop (k + 1); rw [hys] at this; exact this.head
              have hsb : Bytes s := by
                have := hlb.drop (k + 1); rw [hys] at this; exact this.tail
              clear hys
              rw [HC2.out] at HT
              by_cases hc : 2 ≤ y ∧ y.toNat ≤ s.length + 2
              · obtain ⟨hc1, hc2⟩ := hc
                have HZ : Hid (parseP (l.drop k) = (parseP (s.drop (y.toNat - 2))).map ((x, s.take (y.toNat - 2)) :: ·)) := by
                  show _ = _
                  rw [HC2.out, parseP_sized _ _ _ h0 h1, if_pos ⟨hc1, hc2⟩]
                have HD : Hid (s.drop (y.toNat - 2) = l.drop (k + y.toNat)) := by
                  show _ = _
                  rw [← List.drop_drop, HC2.out]
                  obtain ⟨m, hm⟩ : ∃ m, y.toNat = m + 2 := ⟨y.toNat - 2, by omega⟩
                  rw [hm]; rfl
                go_wp2_with fail
                refine (data_yes A x y s _ _ _ hsl2 (by omega) (by exact HT.out) hc1 hc2).mono ?_
                rintro E w' ⟨rfl, D, c, rfl, hrd⟩
                have hdb : (s.take (y.toNat - 2)).length = y.toNat - 2 := by simp; omega
                have hb3 := hsb.take (y.toNat - 2)
                generalize s.take (y.toNat - 2) = d at *
                have HDB : Hid (d.length = y.toNat - 2) := hdb
                have HRD : Hid (Row w' (some D) d) := hrd
                have hd63 : d.length ≤ 140737488355328 := hrd.1
                clear hdb hrd
                go_wp2_with fail
                refine (clone_any (some D) d c _ (by simp) (by exact HRD.out)).mono ?_
                rintro E w3 ⟨v3, rfl, hown3, hnew3, haw3⟩
                obtain ⟨a3, cap3, rfl, _⟩ := hown3.row hd63 hb3
                have hm0 := hmade.on haw3
                have hlt3 := hmade.lst.lt
                go_wp2_with (at_builtin; refine wpList_app2 rfl _ _ rfl _ xs.length (xs.flatMap V.cells) rfl (by exact (hm0.lst.away ((Away.refl [] _).alloc _) (by simp))) ⟨_, 0, none⟩ 1 rfl (.int .i64 x) (.slice a3 d.length cap3) (by rw [World.cell?_alloc_at (hn := rfl)]; rfl) (by rw [add_plain, World.cell?_alloc_at (hn := rfl)]; rfl) rfl rfl (by omega) ?_)
                intro v' w4 hown4 hgr hmov
                have hm1 := hm0.on ((Away.refl [] _).alloc (.cells #[.int .i64 x, .slice a3 d.length cap3] 117))
                have hs3 := haw3.size
                have hm2 := hm1.snoc (x := ⟨x, a3, cap3, d⟩) (by simp; omega) hgr hmov (Lst.snoc hown4) (by unfold I64; simp only; omega) (by exact hown3.away ((Away.refl [] _).alloc _) (by simp)) hb3 hd63 (by exact hnew3.mono hsw) (fun j hj => ⟨fun e => by
                    have h1 := hnew3 j hj
                    have h2 := hlt3 j e
                    omega, fun z hz e => by
                    have h1 := hnew3 j hj
                    have h2 := (hmade.each z hz).2.1.lt j e
                    omega⟩)
                have haw2 : Away [] w w4 := ((haw.next haw3 (by simp)).alloc _).grown hgr (fun k hk => .inr (hmade.new k hk))
                clear hgr hmov hm1 hm0 hown4 hown3 hmade haw3 haw
                go_wp2_with fail
                go_roundw
                case rel => exact ⟨k + y.toNat, xs ++ [⟨x, a3, cap3, d⟩], by omega, by rw [HDB.out]; go_num, hm2, by simp; omega, haw2, by rw [HP.out, HZ.out, HD.out]; cases parseP (l.drop (k + y.toNat)) <;> simp [V.o]⟩
                case measure => rw [HDB.out]; simp [intOf]; omega
              · have HZ : Hid (parseP (l.drop k) = none) := by
                  show _ = _
                  rw [HC2.out, parseP_sized _ _ _ h0 h1, if_neg hc]
                go_wp2_with fail
                refine (data_no A x y s _ _ _ hsl2 (by exact HT.out) hc).mono ?_
                rintro E w' ⟨rfl, rfl⟩
                go_wp2_with fail
                go_ret2
                exact ⟨haw, .inl ⟨parse_none HP.out HZ.out, rfl⟩⟩
            · have HZ : Hid (parseP (l.drop k) = none) := by
                show _ = _
                rw [HC.out, List.drop_eq_nil_of_le (by omega), parseP_lone _ h0 h1]
              go_wp2_with fail
              refine (data_short A (l.drop k) _ _ _ HDL.out (by omega)).mono ?_
              rintro E w' ⟨rfl, rfl⟩
              go_wp2_with fail
              go_ret2
              exact ⟨haw, .inl ⟨parse_none HP.out HZ.out, rfl⟩⟩
    · go_wp2_with fail
      go_ret2
      refine ⟨haw, .inr ⟨_, xs, ?_, rfl, hmade, by omega⟩⟩
      rw [HP.out, List.drop_eq_nil_of_le (by omega), parseP_nil]; simp
set_option maxHeartbeats 1000000 in
theorem ovalid_c (a : Option Addr) (l : List Int) (n cap : Nat) (w : World) (hn : l.length = n) (hcap : n ≤ cap) (hr : Row w a l) (hg : Glob w) :
    Calls Tryz.prog 42 #[.slice a n cap] w fun E w' => E = .returned (.bool (validP l)) ∧ Away [] w w' := by
  subst hn
  have hlen := hr.1
  have HG : Hid (Glob w) := hg
  have HR : Hid (Row w a l) := hr
  clear hg hr
  obtain ⟨z, hz⟩ : ∃ z, z = validP l := ⟨_, rfl⟩
  rw [← hz]
  have HZ : Hid (z = validP l) := hz
  clear hz
  by_cases h1 : 40 < l.length
  · obtain rfl : z = false := by
      rw [HZ.out]; unfold validP; rw [show decide (l.length ≤ 40) = false from by simp; omega]; rfl
    go_enter Tryz.func42, Tryz.ntmps42
    go_wp2_with fail
    go_ret
    exact ⟨rfl, Away.refl _ _⟩
  · by_cases h2 : l.length % 4 = 0
    · have h3 : ((l.length : Int) % 4 != 0) = false := by simp; omega
      have HP : Hid (z = (parseP l).isSome) := by
        show _ = _
        rw [HZ.out]; unfold validP
        rw [show decide (l.length ≤ 40) = true from by simp; omega, show decide (l.length % 4 = 0) = true from by simp; omega]; rfl
      have h4 : decide ((l.length : Int) ≤ 40) = true := by simp; omega
      go_enter Tryz.func42, Tryz.ntmps42
      go_wp2_with fail
      refine (oparse_c a l _ _ _ rfl hcap (by omega) (by exact HR.out) (by exact HG.out)).mono ?_
      rintro E w' ⟨haw, ⟨hp, rfl⟩ | ⟨v, xs, hp, rfl, hm, _⟩⟩
      · obtain rfl : z = false := by rw [HP.out, hp]; rfl
        clear hp
        go_wp2_with fail
        go_ret
        exact ⟨rfl, haw⟩
      · obtain rfl : z = true := by rw [HP.out, hp]; rfl
        clear hp hm
        go_wp2_with fail
        go_ret
        exact ⟨rfl, haw⟩
    · obtain rfl : z = false := by
        rw [HZ.out]; unfold validP; rw [show decide (l.length % 4 = 0) = false from by simp; omega]; simp
      have h3 : ((l.length : Int) % 4 != 0) = true := by simp; omega
      go_enter Tryz.func42, Tryz.ntmps42
      go_wp2_with fail
      go_ret
      exact ⟨rfl, Away.refl _ _⟩
end Go.Proofs.YtkccpidgeecemaaGreatDoor
