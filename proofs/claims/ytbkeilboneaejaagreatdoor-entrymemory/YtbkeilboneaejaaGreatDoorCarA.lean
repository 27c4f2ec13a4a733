/-
  Valid, Carry.
-/
import Derived.Test.YtbkeilboneaejaaGreatDoorOpt
import Derived.Laws.MakeOwn
import Derived.Test.YtbkeilboneaejaaGreatDoorOParse
namespace Go.Proofs.YtbkeilboneaejaaGreatDoor.S4
open Go.ChangeShapes Go.WideShapes Go.ChangeAt Go.RowKit
set_option linter.unusedVariables false

/-! The small functions over one option. -/
def box2 (w : World) (x : V) : World := w.alloc (.cells #[.int .i64 x.kd, .slice x.ba x.b.length x.bc] 121)
set_option maxHeartbeats 1000000 in
theorem right_c (x : V) (w : World) (hl : x.b.length ≤ 140737488355328) (hg : Glob w) :
    Calls Tryz.prog 134 #[x.val] w fun E w' => E = .returned (.bool (rightB x.o)) ∧ Away [] w w' := by
  obtain ⟨kd, ba, bc, b⟩ := x
  simp only [V.val, V.o] at hl ⊢
  have HG : Hid (Glob w) := hg
  clear hg
  by_cases h1 : kd < 1
  · have hR : Hid (rightB (kd, b) = false) := by
      show _ = _
      rw [Bool.eq_false_iff]; intro h; have := (rightB_iff _).1 h; simp only at this; omega
    generalize rightB (kd, b) = R at *
    go_enter Tryz.func134, Tryz.ntmps134
    go_wp2
    go_ret
    exact ⟨by rw [hR.out]; rfl, (Away.refl _ _).alloc _⟩
  · by_cases h2 : 255 < kd
    · have hR : Hid (rightB (kd, b) = false) := by
        show _ = _
        rw [Bool.eq_false_iff]; intro h; have := (rightB_iff _).1 h; simp only at this; omega
      generalize rightB (kd, b) = R at *
      go_enter Tryz.func134, Tryz.ntmps134
      go_wp2
      go_ret
      exact ⟨by rw [hR.out]; rfl, (Away.refl _ _).alloc _⟩
    · by_cases h3 : 38 < b.length
      · have hR : Hid (rightB (kd, b) = false) := by
          show _ = _
          rw [Bool.eq_false_iff]; intro h; have := (rightB_iff _).1 h; simp only at this; omega
        generalize rightB (kd, b) = R at *
        go_enter Tryz.func134, Tryz.ntmps134
        go_wp2
        go_ret
        exact ⟨by rw [hR.out]; rfl, (Away.refl _ _).alloc _⟩
      · by_cases h4 : kd = 1
        · subst h4
          by_cases h5 : b.length = 0
          · have hR : Hid (rightB (1, b) = true) := by
              show _ = _
              rw [rightB_iff]; exact ⟨by simp, by simp, by simp only; omega, fun _ => List.eq_nil_of_length_eq_zero h5⟩
            generalize rightB (1, b) = R at *
            go_enter Tryz.func134, Tryz.ntmps134
            go_wp2_with fail
            refine (shape_c 1 _ (by omega) (by exact HG.out.on ((Away.refl [] w).alloc _))).mono ?_
            rintro E w' ⟨rfl, rfl⟩
            rw [show shapeP 1 = 1 from by decide]
            go_wp2
            go_ret
            exact ⟨by rw [hR.out]; simp, (Away.refl _ _).alloc _⟩
          · have hR : Hid (rightB (1, b) = false) := by
              show _ = _
              rw [Bool.eq_false_iff]; intro h; have := (rightB_iff _).1 h; exact h5 (by rw [show b = [] from this.2.2.2 rfl]; rfl)
            generalize rightB (1, b) = R at *
            go_enter Tryz.func134, Tryz.ntmps134
            go_wp2_with fail
            refine (shape_c 1 _ (by omega) (by exact HG.out.on ((Away.refl [] w).alloc _))).mono ?_
            rintro E w' ⟨rfl, rfl⟩
            rw [show shapeP 1 = 1 from by decide]
            go_wp2
            go_ret
            exact ⟨by rw [hR.out]; simp [h5], (Away.refl _ _).alloc _⟩
        · have hR : Hid (rightB (kd, b) = true) := by
            show _ = _
            rw [rightB_iff]; exact ⟨by simp only; omega, by simp only; omega, by simp only; omega, fun h => absurd h h4⟩
          generalize rightB (kd, b) = R at *
          have hS : shapeP kd = 2 := by unfold shapeP; rw [if_neg (by omega)]
          go_enter Tryz.func134, Tryz.ntmps134
          go_wp2_with fail
          refine (shape_c kd _ (by omega) (by exact HG.out.on ((Away.refl [] w).alloc _))).mono ?_
          rintro E w' ⟨rfl, rfl⟩
          rw [hS]
          go_wp2
          go_ret
          exact ⟨by rw [hR.out]; rfl, (Away.refl _ _).alloc _⟩
set_option maxHeartbeats 400000 in
theorem sizeOf_c (x : V) (w : World) (hl : x.b.length ≤ 140737488355328) (h1 : 1 ≤ x.kd) (hg : Glob w) :
    Calls Tryz.prog 135 #[x.val] w fun E w' => E = .returned (.int .i64 (szP x.o)) ∧ Away [] w w' := by
  obtain ⟨kd, ba, bc, b⟩ := x
  simp only [V.val, V.o] at hl h1 ⊢
  have HG : Hid (Glob w) := hg
  clear hg
  by_cases h4 : kd = 1
  · subst h4
    have hR : Hid (szP (1, b) = 1) := by show _ = _; unfold szP; rw [if_pos rfl]
    generalize szP (1, b) = R at *
    go_enter Tryz.func135, Tryz.ntmps135
    go_wp2_with fail
    refine (shape_c 1 _ (by omega) (by exact HG.out.on ((Away.refl [] w).alloc _))).mono ?_
    rintro E w' ⟨rfl, rfl⟩
    rw [show shapeP 1 = 1 from by decide]
    go_wp2
    go_ret
    exact ⟨by rw [hR.out]; rfl, (Away.refl _ _).alloc _⟩
  · have hR : Hid (szP (kd, b) = 2 + b.length) := by show _ = _; unfold szP; rw [if_neg h4]
    generalize szP (kd, b) = R at *
    have hS : shapeP kd = 2 := by unfold shapeP; rw [if_neg (by omega)]
    go_enter Tryz.func135, Tryz.ntmps135
    go_wp2_with fail
    refine (shape_c kd _ (by omega) (by exact HG.out.on ((Away.refl [] w).alloc _))).mono ?_
    rintro E w' ⟨rfl, rfl⟩
    rw [hS]
    go_wp2
    go_ret
    exact ⟨by rw [hR.out]; apply ret_int; go_num, (Away.refl _ _).alloc _⟩
set_option maxHeartbeats 400000 in
theorem filled_c (n : Nat) (z : Int) (hz : z = n) (w : World) (h : n ≤ 140737488355328) : Calls Tryz.prog 136 #[.int .i64 z] w fun E w' => E = .returned (.int .i64 (fillP n)) ∧ w' = w := by
  subst hz
  go_enter Tryz.func136, Tryz.ntmps136
  go_wp2
  go_ret
  exact ⟨by apply ret_int; unfold fillP; go_num, rfl⟩
#print axioms filled_c
end Go.Proofs.YtbkeilboneaejaaGreatDoor.S4

namespace Go.Proofs.YtbkeilboneaejaaGreatDoor.S4
open Go.ChangeShapes Go.WideShapes Go.ChangeAt Go.RowKit
set_option linter.unusedVariables false
set_option maxRecDepth 20000

/-- A block of bytes of which the first are l, the rest 0. -/
def Full (w : World) (g cap : Nat) (l : List Int) : Prop :=
  w.heap[g]? = some (.cells ((l ++ List.replicate (cap - l.length) 0).map (Value.int .u8)).toArray 5 (0, 0)) ∧ l.length ≤ cap ∧ cap ≤ 140737488355328
theorem Full.away {S : List Nat} {w w' : World} {g cap : Nat} {l : List Int} (h : Full w g cap l) (hw : Away S w w') (hg : g ∉ S) : Full w' g cap l := ⟨hw.keep hg h.1, h.2⟩
theorem Full.owns {w : World} {g cap n : Nat} {l : List Int} (h : Full w g cap l) (hn : l.length = n) : Owns w (.slice (some ⟨g, 0, none⟩) n cap) l := by
  subst hn
  refine ⟨by simp, .inr ⟨g, cap, _, by simp, Nat.zero_le _, h.1, by simpa using h.2.1, by have := h.2.2; unfold maxLen; omega, ?_, ?_⟩⟩
  · have := h.2.1
    simp; omega
  · simp [List.map_append]
theorem run_room (ty : TypeId) (w : World) (g cap : Nat) (l m : List Int) (h : Full w g cap l) (ad : Addr) (n c : Nat) (hn : m.length = n) (hm : ∀ j u, (m.map (Value.int .u8))[j]? = some u → w.cell? (ad.add j) = some u) (hroom : l.length + n ≤ cap) :
    ∃ w', (Builtin.append_ #[26, 26] ty #[.slice (some ⟨g, 0, none⟩) l.length cap, .slice (some ad) n c]).run Tryz.prog w = .ok (.slice (some ⟨g, 0, none⟩) (l.length + n) cap) w' ∧ Full w' g cap (l ++ m) ∧ Away [g] w w' := by
  obtain ⟨i0, hi, hz0, hz1, hz2⟩ := info_parts info5
  subst hn
  have hr := run_append_room (P := Tryz.prog) w 26 ty 5 i0 Tryz.underlying26 hi g l.length cap _ h.1 ad m.length c (m.map (Value.int .u8)) (by rw [hz1]; simp) hm (oneCell_bytes m) hroom (by rw [hz1]; simp; omega)
  refine ⟨_, hr, ⟨?_, by simpa using hroom, h.2.2⟩, ⟨rfl, rfl, rfl, by simp, fun k _ hk => setRow_other w g k _ (fun e => hk (by simp [e]))⟩⟩
  rw [setRow_heap w g _ _ 5 _ h.1, hz1]
  congr 2
  apply congrArg List.toArray
  simp only [Nat.mul_one, List.map_append, List.map_replicate, List.length_map, List.append_assoc, List.length_append]
  have e1 : (l.map (Value.int .u8) ++ List.replicate (cap - l.length) (Value.int .u8 0)).take l.length = l.map (Value.int .u8) := by
    have := List.take_left (l₁ := l.map (Value.int .u8)) (l₂ := List.replicate (cap - l.length) (Value.int .u8 0))
    rwa [List.length_map] at this
  have e2 : (l.map (Value.int .u8) ++ List.replicate (cap - l.length) (Value.int .u8 0)).drop (l.length + m.length) = List.replicate (cap - (l.length + m.length)) (Value.int .u8 0) := by
    rw [← List.drop_drop]
    have := List.drop_left (l₁ := l.map (Value.int .u8)) (l₂ := List.replicate (cap - l.length) (Value.int .u8 0))
    rw [List.length_map] at this
    rw [this, List.drop_replicate, show cap - l.length - m.length = cap - (l.length + m.length) from by omega]
  rw [e1, e2]
theorem wpList_room {w : World} {ops : Array Oper} {rest : List Oper} {o : Oper} {a : Act} {Q : Exit → Act → World → Prop} (hgd : o.guard = none) (s x : Operand)
    (ho : o.op = .call { callee := .builtin .append, args := #[s, x], argTypes := #[26, 26] }) (g cap k : Nat) (l m : List Int) (hk : l.length = k) (hs : a.eval s = .slice (some ⟨g, 0, none⟩) k cap) (hf : Full w g cap l)
    (ad : Addr) (n c : Nat) (hx : a.eval x = .slice (some ad) n c) (hn : m.length = n) (hm : ∀ j u, (m.map (Value.int .u8))[j]? = some u → w.cell? (ad.add j) = some u) (hroom : k + n ≤ cap)
    (h : ∀ w', Full w' g cap (l ++ m) → Away [g] w w' → wpList Tryz.prog ops Q rest (a.put o.dst (.slice (some ⟨g, 0, none⟩) (k + n) cap)) w') : wpList Tryz.prog ops Q (o :: rest) a w := by
  subst hk
  obtain ⟨w', hrun, r1, r2⟩ := run_room o.type w g cap l m hf ad n c hn hm hroom
  refine wpList_plain hgd fun _ hK => ?_
  unfold Oper.wp
  simp [execOp, ho, resolve, invoke, builtin, hs, hx, hrun, Result.andThen]
  exact hK _ _ (h w' r1 r2)

theorem _root_.Go.Proofs.YtbkeilboneaejaaGreatDoor.Row.lt {w : World} {a : Option Addr} {l : List Int} (h : Row w a l) (hl : l ≠ []) : ∀ p, a = some p → p.block < w.heap.size := by
  intro p hp
  rcases h.2.2 with h0 | ⟨b, off, rfl, hc⟩
  · exact absurd h0 hl
  · simp at hp; subst hp
    exact block_lt_of_cell (hc 0 (List.length_pos_iff.2 hl))
/-- What lay did. -/
def LayOut (w : World) (g cap : Nat) (l : List Int) (E : Ending) (w' : World) : Prop := E = .returned (.slice (some ⟨g, 0, none⟩) l.length cap) ∧ Full w' g cap l ∧ Away [g] w w'
set_option maxHeartbeats 1000000 in
theorem lay_c (g cap n : Nat) (l : List Int) (x : V) (w : World) (hn : l.length = n) (hf : Full w g cap l) (hok : x.ok w) (hx : x.b ≠ [] → ∀ p, x.ba = some p → p.block ≠ g) (hR : rightB x.o = true) (hroom : l.length + szP x.o ≤ cap) (hg0 : 0 < g) (hg : Glob w) :
    Calls Tryz.prog 137 #[.slice (some ⟨g, 0, none⟩) n cap, x.val] w fun E w' => LayOut w g cap (l ++ layP x.o) E w' := by
  subst hn
  obtain ⟨kd, ba, bc, b⟩ := x
  simp only [V.val, V.o] at hx hR hroom ⊢
  obtain ⟨hi, hrow, hnone, hbc⟩ := hok
  simp only at hrow hnone hbc hi
  obtain ⟨r1, r2, r3, r4⟩ := (rightB_iff _).1 hR
  simp only at r1 r2 r3 r4
  have hg1 := lt_of_block hf.1
  have HG : Hid (Glob w) := hg
  have HF : Hid (Full w g cap l) := hf
  have HR : Hid (rightB (kd, b) = true) := hR
  have HROW : Hid (Row w ba b) := hrow
  have hb63 := hrow.1
  have hc63 := hf.2.2
  clear hg hf hR hrow
  by_cases h1 : kd = 1
  · subst h1
    have : b = [] := r4 rfl
    subst this
    have hs1 : szP (1, []) = 1 := by unfold szP; rw [if_pos rfl]
    have hl1 : layP (1, []) = [1] := by unfold layP; rw [if_pos rfl]
    rw [hs1] at hroom
    rw [hl1]
    clear r4
    go_enter Tryz.func137, Tryz.ntmps137
    go_wp2_with (at_builtin; refine wpList_room rfl _ _ rfl g cap l.length l [1] rfl rfl (by exact (HF.out.away ((Away.refl [] w).alloc _) (by simp)).away ((Away.refl [] _).alloc _) (by simp)) ⟨_, 0, none⟩ 1 1 rfl rfl (by exact lit_cells _ [1] _ (by simp)) (by omega) ?_)
    intro w2 hf2 haw2
    have haw : Away [g] w w2 := (((Away.refl [g] w).alloc _).alloc _).next haw2 (by simp)
    have HG2 : Hid (Glob w2) := HG.out.away haw (by simp; omega)
    have cx : w2.cell? ⟨w.heap.size, 0, none⟩ = some (.int .i64 1) := by
      refine haw2.cell (by simp; omega) ?_
      refine ((Away.refl [] (w.alloc (.cells #[.int .i64 1, .slice ba 0 bc] 121))).alloc (.cells #[.int .u8 1] 5)).cell (by simp) ?_
      rw [World.cell?_alloc_at (hn := rfl)]; rfl
    clear haw2
    go_wp2_with fail
    refine (shape_c 1 _ (by omega) (by exact HG2.out)).mono ?_
    rintro E w' ⟨rfl, rfl⟩
    rw [show shapeP 1 = 1 from by decide]
    go_wp2
    go_ret
    exact ⟨by simp, hf2, haw⟩
  · have hs1 : szP (kd, b) = 2 + b.length := by unfold szP; rw [if_neg h1]
    have hl1 : layP (kd, b) = [kd, (2 + b.length : Int)] ++ b := by unfold layP; rw [if_neg h1]; rfl
    have HS : Hid (szP (kd, b) = 2 + b.length) := hs1
    rw [hs1] at hroom
    rw [hl1]
    clear r4 hs1 hl1
    have hwr : IntKind.u8.wrap kd = kd := by simp [IntKind.wrap, IntKind.bits, IntKind.signed]; omega
    have hwr2 : IntKind.u8.wrap (2 + b.length : Int) = 2 + b.length := by simp [IntKind.wrap, IntKind.bits, IntKind.signed]; omega
    go_enter Tryz.func137, Tryz.ntmps137
    go_wp2_with (at_builtin; refine wpList_room rfl _ _ rfl g cap l.length l [kd] rfl rfl (by exact (HF.out.away ((Away.refl [] w).alloc _) (by simp)).away ((Away.refl [] _).alloc _) (by simp)) ⟨_, 0, none⟩ 1 1 rfl rfl (by exact lit_cells _ [kd] _ (by simp)) (by omega) ?_)
    intro w2 hf2 haw2
    have haw : Away [g] w w2 := (((Away.refl [g] w).alloc _).alloc _).next haw2 (by simp)
    have HG2 : Hid (Glob w2) := HG.out.away haw (by simp; omega)
    have cx : w2.cell? ⟨w.heap.size, 0, none⟩ = some (.int .i64 kd) ∧ w2.cell? ⟨w.heap.size, 1, none⟩ = some (.slice ba b.length bc) := by
      constructor
      all_goals
        refine haw2.cell (by simp; omega) ?_
        refine ((Away.refl [] (w.alloc (.cells #[.int .i64 kd, .slice ba b.length bc] 121))).alloc _).cell (by simp) ?_
        rw [World.cell?_alloc_at (hn := rfl)]; rfl
    obtain ⟨cx, cy⟩ := cx
    have hs2 := haw.size
    have hsw : w.heap.size < w2.heap.size := block_lt_of_cell cx
    clear haw2
    have hS : shapeP kd = 2 := by unfold shapeP; rw [if_neg (by omega)]
    go_wp2_with fail
    refine (shape_c kd _ (by omega) (by exact HG2.out)).mono ?_
    rintro E w' ⟨rfl, rfl⟩
    rw [hS]
    clear hS
    go_wp2_with fail
    refine (sizeOf_c ⟨kd, ba, bc, b⟩ _ hb63 r1 (by exact HG2.out)).mono ?_
    rintro E w3 ⟨rfl, haw3⟩
    simp only [V.o]
    rw [HS.out]
    have cx3 := haw3.cell (by simp) cx
    have cy3 := haw3.cell (by simp) cy
    have hs3 := haw3.size
    have hf3 := hf2.away haw3 (by simp)
    have haw4 := haw.next haw3 (by simp)
    clear hf2 haw3 haw cx cy
    go_wp2_with (at_builtin; refine wpList_room rfl _ _ rfl g cap (l.length + 1) (l ++ [kd]) [(2 + b.length : Int)] (by simp) rfl (by exact hf3.away ((Away.refl [] _).alloc _) (by simp)) ⟨_, 0, none⟩ 1 1 rfl rfl (by exact lit_cells _ [(2 + b.length : Int)] _ rfl) (by omega) ?_)
    intro w5 hf5 haw5
    have haw6 : Away [g] w w5 := (haw4.alloc _).next haw5 (by simp)
    have cy5 : w5.cell? ⟨w.heap.size, 1, none⟩ = some (.slice ba b.length bc) := haw5.cell (by simp; omega) (((Away.refl [] _).alloc _).cell (by simp) cy3)
    have hrow5 : Row w5 ba b := by
      by_cases hb0 : b = []
      · rw [hb0]; exact Row.nil _ _
      · exact HROW.out.away haw6 (fun p hp => by simpa using hx hb0 p hp)
    have HROW5 : Hid (Row w5 ba b) := hrow5
    have HF5 : Hid (Full w5 g cap (l ++ [kd, (2 + b.length : Int)])) := by
      show Full _ _ _ _
      simpa using hf5
    clear hf3 haw5 haw4 cx3 cy3 hrow5 hf5
    rcases ba with _ | ad
    · have hb0 : b = [] := by rcases HROW.out.2.2 with h | ⟨_, _, h, _⟩ <;> simp_all
      subst hb0
      obtain rfl := hnone rfl
      go_wp2_with (at_builtin; refine wpList_app_none rfl _ _ rfl _ (l ++ [kd, (2 + ([] : List Int).length : Int)]) rfl (by exact HF5.out.owns (by simp)) rfl ?_)
      go_wp2
      go_ret
      exact ⟨by simp, by simpa using HF5.out, haw6⟩
    · go_wp2_with (at_builtin; refine wpList_room rfl _ _ rfl g cap (l.length + 1 + 1) (l ++ [kd, (2 + b.length : Int)]) b (by simp) rfl (by exact HF5.out) ad b.length bc rfl rfl (by exact HROW5.out.src) (by omega) ?_)
      intro w7 hf7 haw7
      have haw8 := haw6.next haw7 (by simp)
      go_wp2
      go_ret
      refine ⟨?_, by simpa using hf7, haw8⟩
      simp [Nat.add_assoc]
      omega
#print axioms lay_c
end Go.Proofs.YtbkeilboneaejaaGreatDoor.S4

namespace Go.Proofs.YtbkeilboneaejaaGreatDoor.S4
open Go.ChangeShapes Go.WideShapes Go.ChangeAt Go.RowKit
set_option linter.unusedVariables false

/-- What Build tells. -/
def BuildOut (w : World) (os : List O) (E : Ending) (w' : World) : Prop :=
  Away [] w w' ∧ ∃ v, E = .returned (.tuple #[v, .int .i64 (buildP os).2]) ∧ Owns w' v (buildP os).1 ∧ New w.heap.size v
theorem rightB_sz {o : O} (h : rightB o = true) : szP o ≤ 40 := by
  obtain ⟨_, _, h3, _⟩ := (rightB_iff o).1 h
  unfold szP; split <;> omega
theorem tot_le : ∀ l : List O, (∀ o ∈ l, rightB o = true) → tot l ≤ 40 * l.length
  | [], _ => by simp [tot_nil]
  | o :: l, h => by
    have h1 := rightB_sz (h o (by simp))
    have h2 := tot_le l (fun p hp => h p (by simp [hp]))
    rw [tot_cons, List.length_cons]; omega
theorem take_snoc {α : Type} {xs : List α} {k : Nat} {x : α} (h : xs[k]? = some x) : xs.take (k + 1) = xs.take k ++ [x] := by
  have hk : k < xs.length := by
    rcases Nat.lt_or_ge k xs.length with h' | h'
    · exact h'
    · rw [List.getElem?_eq_none h'] at h; simp at h
  rw [List.getElem?_eq_getElem hk] at h
  rw [List.take_succ_eq_append_getElem hk, Option.some.inj h]
theorem get_of_lt {α : Type} {xs : List α} {k : Nat} (h : k < xs.length) : ∃ x, xs[k]? = some x ∧ x ∈ xs := ⟨xs[k], List.getElem?_eq_getElem h, List.getElem_mem h⟩
theorem build_bad {os : List O} {o : O} (h : o ∈ os) (hr : rightB o = false) : buildP os = ([], 40) := by
  unfold buildP
  rw [if_neg]
  intro h2
  have := List.all_eq_true.1 h2 o h
  rw [hr] at this; simp at this
theorem build_long {os : List O} (h : ∀ o ∈ os, rightB o = true) (ht : 40 < tot os) : buildP os = ([], 3) := by
  unfold buildP
  rw [if_pos (List.all_eq_true.2 h), if_pos ht]

theorem made_zeros (F : Nat) : madeCells #[.int .u8 0] (F * 1) = (Array.replicate F (Value.int .u8 0)) := by
  apply Array.ext
  · simp [madeCells]
  · intro i h1 h2
    simp [madeCells, Nat.mod_one]
theorem make_bytes (F : Nat) (hF : F ≤ 40) (wx : World) : (Instr.makeSlice 26 (.int .i64 0) (.int .i64 (F : Int))).run Tryz.prog wx = .ok (.slice (some ⟨wx.heap.size, 0, none⟩) 0 F) (wx.alloc (.cells (Array.replicate F (Value.int .u8 0)) 5)) := by
  obtain ⟨i0, hi, hz0, hz1, hz2⟩ := info_parts info5
  have := run_make (P := Tryz.prog) wx 26 5 i0 (.int .u8 0) Tryz.underlying26 hi hz0 .i64 .i64 0 F (by omega) (by omega) (by rw [hz2]; omega) (by omega)
  rw [this, hz1]
  simp only [Int.toNat_zero, Int.toNat_natCast, Value.cells]
  rw [made_zeros]
theorem Full.made (w : World) (F : Nat) (hF : F ≤ 40) : Full (w.alloc (.cells (Array.replicate F (Value.int .u8 0)) 5)) w.heap.size F [] := by
  refine ⟨?_, Nat.zero_le _, by omega⟩
  rw [block_new]
  simp
theorem Full.done {w : World} {g F : Nat} {l : List Int} (h : Full w g F l) : Owns w (.slice (some ⟨g, 0, none⟩) F F) (l ++ List.replicate (F - l.length) 0) := by
  have h1 : Full w g F (l ++ List.replicate (F - l.length) 0) := by
    refine ⟨?_, ?_, h.2.2⟩
    · rw [h.1]
      have := h.2.1
      have e : F - (l ++ List.replicate (F - l.length) 0).length = 0 := by simp; omega
      rw [e]; simp
    · have := h.2.1
      simp; omega
  exact h1.owns (by have := h.2.1; simp; omega)
set_option maxHeartbeats 2000000 in
theorem build_c (a : Option Addr) (xs : List V) (n cap : Nat) (w : World) (hn : xs.length = n) (ho : Opts w a xs) (hg : Glob w) :
    Calls Tryz.prog 121 #[.slice a n cap] w fun E w' => BuildOut w (xs.map V.o) E w' := by
  subst hn
  have hlen := ho.1
  have HG : Hid (Glob w) := hg
  have HO : Hid (Opts w a xs) := ho
  clear hg ho
  go_enter Tryz.func121, Tryz.ntmps121
  go_wp2_with fail
  go_loopw [4, 12] (fun s i wr => ∃ k : Nat, k ≤ xs.length ∧ i = .int .i64 k ∧ s = .int .i64 (tot ((xs.take k).map V.o)) ∧ (∀ x ∈ xs.take k, rightB x.o = true) ∧ Away [] w wr) (fun _ i _ => xs.length - (intOf i).toNat)
  case atStart => exact ⟨0, by omega, rfl, rfl, by simp, Away.refl _ _⟩
  case round =>
    obtain ⟨k, hk, rfl, rfl, hall, haw⟩ := hrel
    have htk : tot ((xs.take k).map V.o) ≤ 40 * k := by
      have := tot_le ((xs.take k).map V.o) (fun o ho => by obtain ⟨x, hx, rfl⟩ := List.mem_map.1 ho; exact hall x hx)
      rw [List.length_map, List.length_take] at this; omega
    by_cases hlt : k < xs.length
    · obtain ⟨x, hx, hmem⟩ := get_of_lt hlt
      have hoo := HO.out.on haw
      have hxok := hoo.2.1 x hmem
      rcases hoo.2.2 with h0 | ⟨b, off, rfl, hcell⟩
      · rw [h0] at hlt; simp at hlt
      · obtain ⟨c0, c1⟩ := hcell k x hx
        have hsnoc : Hid (xs.take (k + 1) = xs.take k ++ [x]) := take_snoc hx
        have HOK : Hid (x.ok wr) := hxok
        have hb63 : x.b.length ≤ 140737488355328 := hxok.2.1.1
        unfold V.sl at c1
        have HG2 := HG.out.on haw
        have HGR : Hid (Glob wr) := HG2
        clear hcell hoo hxok HG2
        obtain ⟨kd, ba, bc, d⟩ := x
        simp only at c0 c1 hb63
        generalize hT : tot ((xs.take k).map V.o) = T at *
        go_wp2_with fail
        refine (right_c ⟨kd, ba, bc, d⟩ _ hb63 (by exact HGR.out.on ((Away.refl [] _).alloc _))).mono ?_
        rintro E w2 ⟨rfl, haw2⟩
        generalize hR : rightB (V.o ⟨kd, ba, bc, d⟩) = R at *
        have HR : Hid (rightB (V.o ⟨kd, ba, bc, d⟩) = R) := hR
        clear hR
        have cs : w2.cell? ⟨wr.heap.size, 0, none⟩ = some (.int .i64 kd) ∧ w2.cell? ⟨wr.heap.size, 1, none⟩ = some (.slice ba d.length bc) := by
          constructor
          all_goals
            refine haw2.cell (by simp) ?_
            rw [World.cell?_alloc_at (hn := rfl)]; rfl
        obtain ⟨d0, d1⟩ := cs
        have haw3 : Away [] w w2 := (haw.alloc _).next haw2 (by simp)
        clear haw haw2
        cases R
        · go_wp2_with fail
          go_ret2
          refine ⟨haw3, _, ?_, ?_, New.nil _⟩
          · rw [build_bad (List.mem_map_of_mem hmem) HR.out]; rfl
          · rw [build_bad (List.mem_map_of_mem hmem) HR.out]; exact Owns.nil _
        · have HG3 : Hid (Glob w2) := HG.out.on haw3
          have hr1 := ((rightB_iff _).1 HR.out).1
          have hz := rightB_sz HR.out
          simp only [V.o] at hr1 hz
          go_wp2_with fail
          refine (sizeOf_c ⟨kd, ba, bc, d⟩ _ hb63 hr1 (by exact HG3.out)).mono ?_
          rintro E w4 ⟨rfl, haw4⟩
          simp only [V.o]
          generalize hZ : szP (kd, d) = Z at *
          have haw5 := haw3.next haw4 (by simp)
          clear haw3 haw4
          go_wp2_with fail
          go_roundw
          case rel =>
            refine ⟨k + 1, by omega, by go_num, ?_, ?_, haw5⟩
            · rw [hsnoc.out, List.map_append, tot_app, hT]
              simp only [List.map_cons, List.map_nil, tot_cons, tot_nil, V.o, hZ]
              go_num
            · rw [hsnoc.out]
              intro y hy
              rcases List.mem_append.1 hy with hy | hy
              · exact hall y hy
              · simp at hy; subst hy; exact HR.out
          case measure => simp [intOf]; omega
    · have hkk : xs.take k = xs := List.take_of_length_le (by omega)
      rw [hkk] at hall
      simp only [hkk] at htk ⊢
      have hall' : ∀ o ∈ xs.map V.o, rightB o = true := fun o ho => by obtain ⟨x, hx, rfl⟩ := List.mem_map.1 ho; exact hall x hx
      have HALL : Hid (∀ o ∈ xs.map V.o, rightB o = true) := hall'
      clear hall hall'
      generalize hT : tot (xs.map V.o) = T at *
      have HT : Hid (tot (xs.map V.o) = T) := hT
      clear hT
      by_cases hbig : 40 < T
      · go_wp2_with fail
        go_ret2
        refine ⟨haw, _, ?_, ?_, New.nil _⟩
        · rw [build_long HALL.out (by rw [HT.out]; exact hbig)]; rfl
        · rw [build_long HALL.out (by rw [HT.out]; exact hbig)]; exact Owns.nil _
      · have hF := fill40 (n := T) (by omega)
        have hF2 := fillP_le T
        go_wp2_with fail
        refine (filled_c T _ rfl _ (by omega)).mono ?_
        rintro E w' ⟨rfl, rfl⟩
        generalize hFF : fillP T = F at *
        have HFF : Hid (fillP T = F) := hFF
        clear hFF
        have hmk := make_bytes F hF
        go_wp2_with fail
        have hf0 := Full.made w' F hF
        have haw1 : Away [] w (w'.alloc (.cells (Array.replicate F (Value.int .u8 0)) 5)) := haw.alloc _
        have hge := haw.size
        have hpos := (HG.out.on haw).pos
        generalize hg : w'.heap.size = g at *
        have hgl : g < (w'.alloc (.cells (Array.replicate F (Value.int .u8 0)) 5)).heap.size := by simp; omega
        generalize w'.alloc (.cells (Array.replicate F (Value.int .u8 0)) 5) = w1 at *
        clear haw hmk hg
        go_loopw [7, 31] (fun v i wr => ∃ k : Nat, k ≤ xs.length ∧ i = .int .i64 k ∧ v = .slice (some ⟨g, 0, none⟩) (tot ((xs.take k).map V.o)) F ∧ Full wr g F (flat ((xs.take k).map V.o)) ∧ Away [] w wr) (fun _ i _ => xs.length - (intOf i).toNat)
        case atStart => exact ⟨0, by omega, rfl, rfl, hf0, haw1⟩
        case round =>
          obtain ⟨j, hj, rfl, rfl, hful, haw⟩ := hrel
          have htj : tot ((xs.take j).map V.o) + tot ((xs.drop j).map V.o) = T := by
            rw [← tot_app, ← List.map_append, List.take_append_drop, HT.out]
          by_cases hlt2 : j < xs.length
          · obtain ⟨x, hx, hmem⟩ := get_of_lt hlt2
            have hoo := HO.out.on haw
            have hxok := hoo.2.1 x hmem
            have hsz : tot ((xs.take j).map V.o) + szP x.o ≤ T := by
              rw [List.drop_eq_getElem_cons hlt2, List.map_cons, tot_cons] at htj
              have : xs[j] = x := by rw [List.getElem?_eq_getElem hlt2] at hx; exact Option.some.inj hx
              rw [this] at htj
              omega
            have hba : x.b ≠ [] → ∀ p, x.ba = some p → p.block ≠ g := by
              intro hb p hp e
              have h1 := (HO.out.2.1 x hmem).2.1.lt hb p hp
              omega
            rcases hoo.2.2 with h0 | ⟨b, off, rfl, hcell⟩
            · rw [h0] at hlt2; simp at hlt2
            · obtain ⟨c0, c1⟩ := hcell j x hx
              have hsnoc : Hid (xs.take (j + 1) = xs.take j ++ [x]) := take_snoc hx
              have HOK : Hid (x.ok wr) := hxok
              have hRx : Hid (rightB x.o = true) := HALL.out _ (List.mem_map_of_mem hmem)
              unfold V.sl at c1
              have HGR : Hid (Glob wr) := HG.out.on haw
              have HFL : Hid (Full wr g F (flat ((xs.take j).map V.o))) := hful
              have hfl : Hid ((flat ((xs.take j).map V.o)).length = tot ((xs.take j).map V.o)) := flat_len _
              clear hcell hoo hxok hful htj
              obtain ⟨kd, ba, bc, d⟩ := x
              simp only at c0 c1 hba
              generalize hT2 : tot ((xs.take j).map V.o) = T2 at *
              go_wp2_with fail
              refine (lay_c g F _ (flat ((xs.take j).map V.o)) ⟨kd, ba, bc, d⟩ _ hfl.out (by exact HFL.out.away ((Away.refl [] _).alloc _) (by simp)) (by exact HOK.out.on ((Away.refl [] _).alloc _)) hba hRx.out (by rw [hfl.out]; omega) (by omega) (by exact HGR.out.on ((Away.refl [] _).alloc _))).mono ?_
              rintro E w4 ⟨rfl, hf4, haw4⟩
              have haw5 : Away [] w w4 := (haw.alloc _).next haw4 (by simp; omega)
              have e1 : flat ((xs.take (j + 1)).map V.o) = flat ((xs.take j).map V.o) ++ layP (V.o ⟨kd, ba, bc, d⟩) := by
                rw [hsnoc.out, List.map_append, flat_app]; simp [flat]
              have HE : Hid (flat ((xs.take (j + 1)).map V.o) = flat ((xs.take j).map V.o) ++ layP (V.o ⟨kd, ba, bc, d⟩)) := e1
              rw [← e1] at hf4 ⊢
              clear e1 haw haw4
              rw [flat_len]
              go_wp2_with fail
              go_roundw
              case rel => exact ⟨j + 1, by omega, by go_num, by rw [List.map_take], hf4, haw5⟩
              case measure => simp [intOf]; omega
          · have hkk2 : xs.take j = xs := List.take_of_length_le (by omega)
            simp only [hkk2] at hful ⊢
            rw [HT.out]
            have hsl := slice_h (some ⟨g, 0, none⟩) T F F F rfl (Nat.le_refl _)
            have hown := hful.done
            rw [flat_len, HT.out] at hown
            have HOW : Hid (Owns wr (.slice (some ⟨g, 0, none⟩) F F) (flat (xs.map V.o) ++ List.replicate (F - T) 0)) := hown
            clear hful hown
            go_wp2_with fail
            refine (filled_c T _ rfl _ (by omega)).mono ?_
            rintro E w' ⟨rfl, rfl⟩
            rw [HFF.out]
            go_wp2_with fail
            go_ret2
            have e := buildP_ok HALL.out (by rw [HT.out]; omega)
            refine ⟨haw, .slice (some ⟨g, 0, none⟩) F F, ?_, ?_, ?_⟩
            · rw [e]; rfl
            · rw [e]
              simp only [laidP, HT.out, HFF.out]
              exact HOW.out
            · intro m hm
              simp [Value.ownBlock] at hm
              omega
#print axioms build_c
end Go.Proofs.YtbkeilboneaejaaGreatDoor.S4

namespace Go.Proofs.YtbkeilboneaejaaGreatDoor.S4
open Go.ChangeShapes Go.WideShapes Go.ChangeAt Go.RowKit
set_option linter.unusedVariables false

/-- What Carry tells. -/
def BytesOut (w : World) (l : List Int) (E : Ending) (w' : World) : Prop := ∃ v, E = .returned v ∧ Owns w' v l ∧ New w.heap.size v ∧ Away [] w w'
def big (x : V) : Bool := decide (128 ≤ x.kd)
theorem filter_map (xs : List V) : (xs.filter big).map V.o = (xs.map V.o).filter (fun o => decide (128 ≤ o.1)) := by
  rw [List.filter_map]; rfl
set_option maxHeartbeats 2000000 in
theorem carry_c (a : Option Addr) (l : List Int) (n cap : Nat) (w : World) (hn : l.length = n) (hcap : n ≤ cap) (hr : Row w a l) (hg : Glob w) :
    Calls Tryz.prog 107 #[.slice a n cap] w fun E w' => BytesOut w (carryP l) E w' := by
  subst hn
  have hlen := hr.1
  have HG : Hid (Glob w) := hg
  have HR : Hid (Row w a l) := hr
  clear hg hr
  go_enter Tryz.func107, Tryz.ntmps107
  go_wp2_with fail
  refine (ovalid_c a l _ _ _ rfl hcap (by exact HR.out) (by exact HG.out)).mono ?_
  rintro E w1 ⟨rfl, haw1⟩
  generalize hv : validP l = z
  have HV : Hid (validP l = z) := hv
  clear hv
  cases z
  · go_wp2_with fail
    go_ret
    refine ⟨_, rfl, ?_, New.nil _, haw1⟩
    unfold carryP
    rw [if_neg (by rw [HV.out]; simp)]
    exact Owns.nil _
  · have hl40 : l.length ≤ 40 := by
      have := HV.out
      unfold validP at this
      simp only [Bool.and_eq_true, decide_eq_true_eq] at this
      exact this.1.1
    have hs1 := haw1.size
    go_wp2_with fail
    refine (oparse_c a l _ _ _ rfl hcap (by omega) (by exact HR.out.away haw1 (by simp)) (by exact HG.out.on haw1)).mono ?_
    rintro E w2 ⟨haw2, ⟨hp, rfl⟩ | ⟨v, xs, hp, rfl, hm, hxl⟩⟩
    · exfalso
      have := HV.out
      unfold validP at this
      rw [hp] at this
      simp at this
    · obtain ⟨va, vc, rfl, hvc, hvn, hopts, _⟩ := hm.opts (by omega)
      have hok := hm.ok
      have haw3 := haw1.next haw2 (by simp)
      have hs3 := haw3.size
      have HP : Hid (parseP l = some (xs.map V.o)) := hp
      have HOK : Hid (∀ x ∈ xs, x.ok w2) := hok
      have HOP : Hid (Opts w2 va xs) := hopts
      clear hm hp hok hopts haw1 haw2 hs1
      go_wp2_with fail
      go_loopw [5, 20] (fun u i wr => ∃ k : Nat, k ≤ xs.length ∧ i = .int .i64 k ∧ Lst wr u ((xs.take k).filter big) ∧ New w2.heap.size u ∧ Away [] w2 wr) (fun _ i _ => xs.length - (intOf i).toNat)
      case atStart => exact ⟨0, by omega, rfl, Lst.nil _, New.nil _, Away.refl _ _⟩
      case round =>
        obtain ⟨k, hk, rfl, hlst, hnew, haw⟩ := hrel
        have hflen : ((xs.take k).filter big).length ≤ k := Nat.le_trans (List.length_filter_le _ _) (by simp; omega)
        by_cases hlt : k < xs.length
        · obtain ⟨x, hx, hmem⟩ := get_of_lt hlt
          have hoo := HOP.out.on haw
          rcases hoo.2.2 with h0 | ⟨b, off, rfl, hcell⟩
          · rw [h0] at hlt; simp at hlt
          · obtain ⟨c0, c1⟩ := hcell k x hx
            have hsnoc : Hid ((xs.take (k + 1)).filter big = (xs.take k).filter big ++ (if big x then [x] else [])) := by
              show _ = _
              rw [take_snoc hx, List.filter_append]
              congr 1
              by_cases hb : big x = true
              · rw [if_pos hb, List.filter_cons_of_pos hb]; rfl
              · rw [if_neg hb, List.filter_cons_of_neg hb]; rfl
            unfold V.sl at c1
            have hs4 := haw.size
            have HL : Hid (((xs.take k).filter big).length ≤ k) := hflen
            clear hcell hoo hx hflen
            generalize (xs.take k).filter big = fs at *
            obtain ⟨kd, ba, bc, d⟩ := x
            simp only at c0 c1
            by_cases hb : 128 ≤ kd
            · have hbd : decide (128 ≤ kd) = true := by simp [hb]
              have hsn : Hid ((xs.take (k + 1)).filter big = fs ++ [⟨kd, ba, bc, d⟩]) := by
                show _ = _
                rw [hsnoc.out, if_pos (show big ⟨kd, ba, bc, d⟩ = true from hbd)]
              clear hsnoc
              go_wp2_with (at_builtin; refine wpList_app2 rfl _ _ rfl _ fs.length (fs.flatMap V.cells) rfl (by exact ((hlst.away ((Away.refl [] _).alloc _) (by simp)).away ((Away.refl [] _).alloc _) (by simp))) ⟨_, 0, none⟩ 1 rfl (.int .i64 kd) (.slice ba d.length bc) (by rw [World.cell?_alloc_at (hn := by simp)]; rfl) (by rw [add_plain, World.cell?_alloc_at (hn := by simp)]; rfl) rfl rfl (by have := HL.out; omega) ?_)
              intro v' w4 hown4 hgr hmov
              have hl4 : Lst w4 v' (fs ++ [⟨kd, ba, bc, d⟩]) := Lst.snoc hown4
              have hnew4 : New w2.heap.size v' := hnew.moved hmov (by simp; omega)
              have haw4 : Away [] w2 w4 := ((haw.alloc _).alloc _).grown hgr (fun k hk => .inr (hnew k hk))
              clear hgr hmov hown4 hlst haw
              go_wp2_with fail
              go_roundw
              case rel => exact ⟨k + 1, by omega, by go_num, by rw [hsn.out]; exact hl4, hnew4, haw4⟩
              case measure => simp [intOf]; omega
            · have hbd : decide (128 ≤ kd) = false := by simp; omega
              have hsn : Hid ((xs.take (k + 1)).filter big = fs) := by
                show _ = _
                rw [hsnoc.out, if_neg (show ¬ big ⟨kd, ba, bc, d⟩ = true from by rw [show big ⟨kd, ba, bc, d⟩ = false from hbd]; simp)]; simp
              clear hsnoc
              go_wp2_with fail
              go_roundw
              case rel => exact ⟨k + 1, by omega, by go_num, by rw [hsn.out]; exact hlst.away ((Away.refl [] _).alloc _) (by simp), hnew, haw.alloc _⟩
              case measure => simp [intOf]; omega
        · have hkk : xs.take k = xs := List.take_of_length_le (by omega)
          rw [hkk] at hlst
          obtain ⟨fa, fc, rfl, hfc, hfn, hfo, _⟩ := hlst.opts (by have := List.length_filter_le big xs; omega) (fun x hx => (HOK.out x (List.mem_filter.1 hx).1).on haw)
          have HFO : Hid (Opts wr fa (xs.filter big)) := hfo
          have HGR : Hid (Glob wr) := HG.out.on (haw3.next haw (by simp))
          have haw5 := haw3.next haw (by simp)
          have hs5 := haw5.size
          have HC : Hid (carryP l = (buildP ((xs.filter big).map V.o)).1) := by
            show _ = _
            unfold carryP
            rw [if_pos HV.out, HP.out, Option.getD_some, filter_map]
          clear hlst hfo haw
          go_wp2_with fail
          refine (build_c fa (xs.filter big) _ _ _ rfl (by exact HFO.out) (by exact HGR.out)).mono ?_
          rintro E w6 ⟨haw6, v6, rfl, hown6, hnew6⟩
          rw [← HC.out] at hown6
          generalize (buildP ((xs.filter big).map V.o)).2 = er
          go_wp2_with fail
          go_ret
          exact ⟨v6, rfl, hown6, hnew6.mono hs5, haw5.next haw6 (by simp)⟩
#print axioms carry_c
end Go.Proofs.YtbkeilboneaejaaGreatDoor.S4
