/-
  lay: appends within the room that was made.
-/
import Derived.Test.YtaicckenpplceaaGreatDoorOpt4
namespace Go.Proofs.YtaicckenpplceaaGreatDoor.S4
open Go.ChangeShapes Go.WideShapes Go.ChangeAt Go.RowKit
set_option linter.unusedVariables false
set_option maxRecDepth 20000

/-- A block of bytes of which the first are l, the rest 0. -/
def Full (w : World) (g cap : Nat) (l : List Int) : Prop :=
  w.heap[g]? = some (.cells ((l ++ List.replicate (cap - l.length) 0).map (Value.int .u8)).toArray 5 (0, 0)) ∧ l.length ≤ cap ∧ cap ≤ 140737488355328
theorem Full.away {S : List Nat} {w w' : World} {g cap : Nat} {l : List Int} (h : Full w g cap l) (hw : Away S w w') (hg : g ∉ S) : Full w' g cap l := ⟨hw.keep hg h.1, h.2⟩
theorem Full.owns {w : World} {g cap n : Nat} {l : List Int} (h : Full w g cap l) (hn : l.length = n) : Owns w (.slice (some ⟨g, 0, none⟩) n cap) l := by
  subst hn
  refine ⟨by simp, .inr ⟨g, cap, _, by simp, Nat.zero_le _, h.1, by simpa using h.2.1, by have := h.2.2; unfold maxLen; omega, ?_, ?_⟩⟩
  · have := h.2.1
    simp; omega
  · simp [List.map_append]
theorem run_room (ty : TypeId) (w : World) (g cap : Nat) (l m : List Int) (h : Full w g cap l) (ad : Addr) (n c : Nat) (hn : m.length = n) (hm : ∀ j u, (m.map (Value.int .u8))[j]? = some u → w.cell? (ad.add j) = some u) (hroom : l.length + n ≤ cap) :
    ∃ w', (Builtin.append_ #[27, 27] ty #[.slice (some ⟨g, 0, none⟩) l.length cap, .slice (some ad) n c]).run Tryz.prog w = .ok (.slice (some ⟨g, 0, none⟩) (l.length + n) cap) w' ∧ Full w' g cap (l ++ m) ∧ Away [g] w w' := by
  obtain ⟨i0, hi, hz0, hz1, hz2⟩ := info_parts info5
  subst hn
  have hr := run_append_room (P := Tryz.prog) w 27 ty 5 i0 Tryz.underlying27 hi g l.length cap _ h.1 ad m.length c (m.map (Value.int .u8)) (by rw [hz1]; simp) hm (oneCell_bytes m) hroom (by rw [hz1]; simp; omega)
  refine ⟨_, hr, ⟨?_, by simpa using hroom, h.2.2⟩, ⟨rfl, rfl, rfl, by simp, fun k _ hk => setRow_other w g k _ (fun e => hk (by simp [e]))⟩⟩
  rw [setRow_heap w g _ _ 5 _ h.1, hz1]
  congr 2
  apply congrArg List.toArray
  simp only [Nat.mul_one, List.map_append, List.map_replicate, List.length_map, List.append_assoc, List.length_append]
  have e1 : (l.map (Value.int .u8) ++ List.replicate (cap - l.length) (Value.int .u8 0)).take l.length = l.map (Value.int .u8) := by
    have := List.take_left (l₁ := l.map (Value.int .u8)) (l₂ := List.replicate (cap - l.length) (Value.int .u8 0))
    rwa [List.length_map] at this
  have e2 : (l.map (Value.int .u8) ++ List.replicate (cap - l.length) (Value.int .u8 0)).drop (l.length + m.length) = List.replicate (cap - (l.length + m.length)) (Value.int .u8 0) := by
    rw [← List.drop_drop]
    have := List.drop_left (l₁ := l.map (Value.int .u8)) (l₂ := List.replicate (cap - l.length) (Value.int .u8 0))
    rw [List.length_map] at this
    rw [this, List.drop_replicate, show cap - l.length - m.length = cap - (l.length + m.length) from by omega]
  rw [e1, e2]
theorem wpList_room {w : World} {ops : Array Oper} {rest : List Oper} {o : Oper} {a : Act} {Q : Exit → Act → World → Prop} (hgd : o.guard = none) (s x : Operand)
    (ho : o.op = .call { callee := .builtin .append, args := #[s, x], argTypes := #[27, 27] }) (g cap k : Nat) (l m : List Int) (hk : l.length = k) (hs : a.eval s = .slice (some ⟨g, 0, none⟩) k cap) (hf : Full w g cap l)
    (ad : Addr) (n c : Nat) (hx : a.eval x = .slice (some ad) n c) (hn : m.length = n) (hm : ∀ j u, (m.map (Value.int .u8))[j]? = some u → w.cell? (ad.add j) = some u) (hroom : k + n ≤ cap)
    (h : ∀ w', Full w' g cap (l ++ m) → Away [g] w w' → wpList Tryz.prog ops Q rest (a.put o.dst (.slice (some ⟨g, 0, none⟩) (k + n) cap)) w') : wpList Tryz.prog ops Q (o :: rest) a w := by
  subst hk
  obtain ⟨w', hrun, r1, r2⟩ := run_room o.type w g cap l m hf ad n c hn hm hroom
  refine wpList_plain hgd fun _ hK => ?_
  unfold Oper.wp
  simp [execOp, ho, resolve, invoke, builtin, hs, hx, hrun, Result.andThen]
  exact hK _ _ (h w' r1 r2)

theorem _root_.Go.Proofs.YtaicckenpplceaaGreatDoor.Row.lt {w : World} {a : Option Addr} {l : List Int} (h : Row w a l) (hl : l ≠ []) : ∀ p, a = some p → p.block < w.heap.size := by
  intro p hp
  rcases h.2.2 with h0 | ⟨b, off, rfl, hc⟩
  · exact absurd h0 hl
  · simp at hp; subst hp
    exact block_lt_of_cell (hc 0 (List.length_pos_iff.2 hl))
/-- What lay did. -/
def LayOut (w : World) (g cap : Nat) (l : List Int) (E : Ending) (w' : World) : Prop := E = .returned (.slice (some ⟨g, 0, none⟩) l.length cap) ∧ Full w' g cap l ∧ Away [g] w w'
set_option maxHeartbeats 1000000 in
theorem lay_c (g cap n : Nat) (l : List Int) (x : V) (w : World) (hn : l.length = n) (hf : Full w g cap l) (hok : x.ok w) (hx : x.b ≠ [] → ∀ p, x.ba = some p → p.block ≠ g) (hR : rightB x.o = true) (hroom : l.length + szP x.o ≤ cap) (hg0 : 0 < g) (hg : Glob w) :
    Calls Tryz.prog 103 #[.slice (some ⟨g, 0, none⟩) n cap, x.val] w fun E w' => LayOut w g cap (l ++ layP x.o) E w' := by
  subst hn
  obtain ⟨kd, ba, bc, b⟩ := x
  simp only [V.val, V.o] at hx hR hroom ⊢
  obtain ⟨hi, hrow, hnone, hbc⟩ := hok
  simp only at hrow hnone hbc hi
  obtain ⟨r1, r2, r3, r4⟩ := (rightB_iff _).1 hR
  simp only at r1 r2 r3 r4
  have hg1 := lt_of_block hf.1
  have HG : Hid (Glob w) := hg
  have HF : Hid (Full w g cap l) := hf
  have HR : Hid (rightB (kd, b) = true) := hR
  have HROW : Hid (Row w ba b) := hrow
  have hb63 := hrow.1
  have hc63 := hf.2.2
  clear hg hf hR hrow
  by_cases h1 : kd = 1
  · subst h1
    have : b = [] := r4 rfl
    subst this
    have hs1 : szP (1, []) = 1 := by unfold szP; rw [if_pos rfl]
    have hl1 : layP (1, []) = [1] := by unfold layP; rw [if_pos rfl]
    rw [hs1] at hroom
    rw [hl1]
    clear r4
    go_enter Tryz.func103, Tryz.ntmps103
    go_wp2_with (at_builtin; refine wpList_room rfl _ _ rfl g cap l.length l [1] rfl rfl (by exact (HF.out.away ((Away.refl [] w).alloc _) (by simp)).away ((Away.refl [] _).alloc _) (by simp)) ⟨_, 0, none⟩ 1 1 rfl rfl (by exact lit_cells _ [1] _ (by simp)) (by omega) ?_)
    intro w2 hf2 haw2
    have haw : Away [g] w w2 := (((Away.refl [g] w).alloc _).alloc _).next haw2 (by simp)
    have HG2 : Hid (Glob w2) := HG.out.away haw (by simp; omega)
    have cx : w2.cell? ⟨w.heap.size, 0, none⟩ = some (.int .i64 1) := by
      refine haw2.cell (by simp; omega) ?_
      refine ((Away.refl [] (w.alloc (.cells #[.int .i64 1, .slice ba 0 bc] 95))).alloc (.cells #[.int .u8 1] 5)).cell (by simp) ?_
      rw [World.cell?_alloc_at (hn := rfl)]; rfl
    clear haw2
    go_wp2_with fail
    refine (shape_c 1 _ (by omega) (by exact HG2.out)).mono ?_
    rintro E w' ⟨rfl, rfl⟩
    rw [show shapeP 1 = 1 from by decide]
    go_wp2
    go_ret
    exact ⟨by simp, hf2, haw⟩
  · have hs1 : szP (kd, b) = 2 + b.length := by unfold szP; rw [if_neg h1]
    have hl1 : layP (kd, b) = [kd, (2 + b.length : Int)] ++ b := by unfold layP; rw [if_neg h1]; rfl
    have HS : Hid (szP (kd, b) = 2 + b.length) := hs1
    rw [hs1] at hroom
    rw [hl1]
    clear r4 hs1 hl1
    have hwr : IntKind.u8.wrap kd = kd := by simp [IntKind.wrap, IntKind.bits, IntKind.signed]; omega
    have hwr2 : IntKind.u8.wrap (2 + b.length : Int) = 2 + b.length := by simp [IntKind.wrap, IntKind.bits, IntKind.signed]; omega
    go_enter Tryz.func103, Tryz.ntmps103
    go_wp2_with (at_builtin; refine wpList_room rfl _ _ rfl g cap l.length l [kd] rfl rfl (by exact (HF.out.away ((Away.refl [] w).alloc _) (by simp)).away ((Away.refl [] _).alloc _) (by simp)) ⟨_, 0, none⟩ 1 1 rfl rfl (by exact lit_cells _ [kd] _ (by simp)) (by omega) ?_)
    intro w2 hf2 haw2
    have haw : Away [g] w w2 := (((Away.refl [g] w).alloc _).alloc _).next haw2 (by simp)
    have HG2 : Hid (Glob w2) := HG.out.away haw (by simp; omega)
    have cx : w2.cell? ⟨w.heap.size, 0, none⟩ = some (.int .i64 kd) ∧ w2.cell? ⟨w.heap.size, 1, none⟩ = some (.slice ba b.length bc) := by
      constructor
      all_goals
        refine haw2.cell (by simp; omega) ?_
        refine ((Away.refl [] (w.alloc (.cells #[.int .i64 kd, .slice ba b.length bc] 95))).alloc _).cell (by simp) ?_
        rw [World.cell?_alloc_at (hn := rfl)]; rfl
    obtain ⟨cx, cy⟩ := cx
    have hs2 := haw.size
    have hsw : w.heap.size < w2.heap.size := block_lt_of_cell cx
    clear haw2
    have hS : shapeP kd = 2 := by unfold shapeP; rw [if_neg (by omega)]
    go_wp2_with fail
    refine (shape_c kd _ (by omega) (by exact HG2.out)).mono ?_
    rintro E w' ⟨rfl, rfl⟩
    rw [hS]
    clear hS
    go_wp2_with fail
    refine (sizeOf_c ⟨kd, ba, bc, b⟩ _ hb63 r1 (by exact HG2.out)).mono ?_
    rintro E w3 ⟨rfl, haw3⟩
    simp only [V.o]
    rw [HS.out]
    have cx3 := haw3.cell (by simp) cx
    have cy3 := haw3.cell (by simp) cy
    have hs3 := haw3.size
    have hf3 := hf2.away haw3 (by simp)
    have haw4 := haw.next haw3 (by simp)
    clear hf2 haw3 haw cx cy
    go_wp2_with (at_builtin; refine wpList_room rfl _ _ rfl g cap (l.length + 1) (l ++ [kd]) [(2 + b.length : Int)] (by simp) rfl (by exact hf3.away ((Away.refl [] _).alloc _) (by simp)) ⟨_, 0, none⟩ 1 1 rfl rfl (by exact lit_cells _ [(2 + b.length : Int)] _ rfl) (by omega) ?_)
    intro w5 hf5 haw5
    have haw6 : Away [g] w w5 := (haw4.alloc _).next haw5 (by simp)
    have cy5 : w5.cell? ⟨w.heap.size, 1, none⟩ = some (.slice ba b.length bc) := haw5.cell (by simp; omega) (((Away.refl [] _).alloc _).cell (by simp) cy3)
    have hrow5 : Row w5 ba b := by
      by_cases hb0 : b = []
      · rw [hb0]; exact Row.nil _ _
      · exact HROW.out.away haw6 (fun p hp => by simpa using hx hb0 p hp)
    have HROW5 : Hid (Row w5 ba b) := hrow5
    have HF5 : Hid (Full w5 g cap (l ++ [kd, (2 + b.length : Int)])) := by
      show Full _ _ _ _
      simpa using hf5
    clear hf3 haw5 haw4 cx3 cy3 hrow5 hf5
    rcases ba with _ | ad
    · have hb0 : b = [] := by rcases HROW.out.2.2 with h | ⟨_, _, h, _⟩ <;> simp_all
      subst hb0
      obtain rfl := hnone rfl
      go_wp2_with (at_builtin; refine wpList_app_none rfl _ _ rfl _ (l ++ [kd, (2 + ([] : List Int).length : Int)]) rfl (by exact HF5.out.owns (by simp)) rfl ?_)
      go_wp2
      go_ret
      exact ⟨by simp, by simpa using HF5.out, haw6⟩
    · go_wp2_with (at_builtin; refine wpList_room rfl _ _ rfl g cap (l.length + 1 + 1) (l ++ [kd, (2 + b.length : Int)]) b (by simp) rfl (by exact HF5.out) ad b.length bc rfl rfl (by exact HROW5.out.src) (by omega) ?_)
      intro w7 hf7 haw7
      have haw8 := haw6.next haw7 (by simp)
      go_wp2
      go_ret
      refine ⟨?_, by simpa using hf7, haw8⟩
      simp [Nat.add_assoc]
      omega
#print axioms lay_c
end Go.Proofs.YtaicckenpplceaaGreatDoor.S4
