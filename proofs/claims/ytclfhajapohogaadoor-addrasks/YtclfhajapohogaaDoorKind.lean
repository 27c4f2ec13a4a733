/-
  kind6, Kind.
-/
import Derived.Test.YtclfhajapohogaaDoorLeaf
namespace Go.Proofs.YtclfhajapohogaaDoor
open Go.ChangeShapes Go.WideShapes Go.ChangeAt Go.RowKit
set_option linter.unusedVariables false
set_option maxHeartbeats 4000000
set_option maxRecDepth 100000
def k6 (l : List Int) : Int := if eqL l one16 = true then 2 else if l.head? = some 255 then 3 else 5
theorem kind6_c (l : List Int) (hl : l.length = 16) (w : World) :
    Calls Tryd.prog 29 #[arr .u8 l] w fun e w' => e = .returned (.int .i64 (k6 l)) ∧ Below w.heap.size w w' := by
  obtain ⟨b0, b1, b2, b3, b4, b5, b6, b7, b8, b9, b10, b11, b12, b13, b14, b15, rfl⟩ := list16 hl
  have hq := fun w => eq22 [b0, b1, b2, b3, b4, b5, b6, b7, b8, b9, b10, b11, b12, b13, b14, b15] one16 rfl rfl w
  simp only [arr, one16, List.map_cons, List.map_nil] at hq
  have hg := guard22
  simp only [arr, List.map_cons, List.map_nil]
  go_enter Tryd.func29, Tryd.ntmps29
  go_wp2
  all_goals (go_ret; refine ⟨ret_int ?_, (Below.refl _ _).alloc (Nat.le_refl _) _⟩)
  all_goals (simp_all [k6, one16])
def kindP (v : Int) (l : List Int) : Int :=
  if validP v l = false then 0 else if eqL l z16 = true then 1 else if v = 4 then k4 (l.getD 0 0) (l.getD 1 0) (l.getD 2 0) (l.getD 3 0) else k6 l
theorem BoxA.cells17 {w : World} {g : Nat} {v : Int} {b0 b1 b2 b3 b4 b5 b6 b7 b8 b9 b10 b11 b12 b13 b14 b15 : Int} (h : BoxA w g v [b0, b1, b2, b3, b4, b5, b6, b7, b8, b9, b10, b11, b12, b13, b14, b15]) :
    w.cell? ⟨g, 0, none⟩ = some (.int .i64 v) ∧ w.cell? ⟨g, 1, none⟩ = some (.int .u8 b0) ∧ w.cell? ⟨g, 2, none⟩ = some (.int .u8 b1) ∧ w.cell? ⟨g, 3, none⟩ = some (.int .u8 b2) ∧ w.cell? ⟨g, 4, none⟩ = some (.int .u8 b3) ∧ w.cell? ⟨g, 5, none⟩ = some (.int .u8 b4) ∧
    w.cell? ⟨g, 6, none⟩ = some (.int .u8 b5) ∧ w.cell? ⟨g, 7, none⟩ = some (.int .u8 b6) ∧ w.cell? ⟨g, 8, none⟩ = some (.int .u8 b7) ∧ w.cell? ⟨g, 9, none⟩ = some (.int .u8 b8) ∧ w.cell? ⟨g, 10, none⟩ = some (.int .u8 b9) ∧ w.cell? ⟨g, 11, none⟩ = some (.int .u8 b10) ∧
    w.cell? ⟨g, 12, none⟩ = some (.int .u8 b11) ∧ w.cell? ⟨g, 13, none⟩ = some (.int .u8 b12) ∧ w.cell? ⟨g, 14, none⟩ = some (.int .u8 b13) ∧ w.cell? ⟨g, 15, none⟩ = some (.int .u8 b14) ∧ w.cell? ⟨g, 16, none⟩ = some (.int .u8 b15) := by
  have h' : ∀ i, w.cell? ⟨g, i, none⟩ = (csA v [b0, b1, b2, b3, b4, b5, b6, b7, b8, b9, b10, b11, b12, b13, b14, b15])[i]? := fun i => by unfold BoxA at h; simp [World.cell?, h]
  refine ⟨?_, ?_, ?_, ?_, ?_, ?_, ?_, ?_, ?_, ?_, ?_, ?_, ?_, ?_, ?_, ?_, ?_⟩ <;> rw [h'] <;> rfl
theorem kind_c (v : Int) (l : List Int) (hl : l.length = 16) (w : World) :
    Calls Tryd.prog 13 #[.agg (csA v l)] w fun e w' => e = .returned (.int .i64 (kindP v l)) ∧ Below w.heap.size w w' := by
  obtain ⟨b0, b1, b2, b3, b4, b5, b6, b7, b8, b9, b10, b11, b12, b13, b14, b15, rfl⟩ := list16 hl
  have h46 := at46
  have hq := fun w => eq22 [b0, b1, b2, b3, b4, b5, b6, b7, b8, b9, b10, b11, b12, b13, b14, b15] z16 rfl rfl w
  simp only [arr, z16, List.map_cons, List.map_nil] at hq
  have hg := guard22
  obtain ⟨e1, he1⟩ : ∃ e1, e1 = validP v [b0, b1, b2, b3, b4, b5, b6, b7, b8, b9, b10, b11, b12, b13, b14, b15] := ⟨_, rfl⟩
  obtain ⟨e2, he2⟩ : ∃ e2, e2 = kindP v [b0, b1, b2, b3, b4, b5, b6, b7, b8, b9, b10, b11, b12, b13, b14, b15] := ⟨_, rfl⟩
  rw [← he2]
  obtain ⟨cs, hcs⟩ : ∃ c, c = csA v [b0, b1, b2, b3, b4, b5, b6, b7, b8, b9, b10, b11, b12, b13, b14, b15] := ⟨_, rfl⟩
  have r1 : rowAt (w.alloc (.cells cs 24)) w.heap.size = some cs := rowAt_new w cs 24 (by rw [hcs]; rfl)
  have r2 : BoxA (w.alloc (.cells cs 24)) w.heap.size v [b0, b1, b2, b3, b4, b5, b6, b7, b8, b9, b10, b11, b12, b13, b14, b15] := by rw [hcs]; exact BoxA.new w v _ _ rfl
  have HV : Hid (∀ W, Calls Tryd.prog 14 #[.agg cs] W fun e w' => e = .returned (.bool e1) ∧ Below W.heap.size W w') := Lib.hid (fun W => by rw [hcs, he1]; exact valid_c v [b0, b1, b2, b3, b4, b5, b6, b7, b8, b9, b10, b11, b12, b13, b14, b15] rfl W)
  rw [← hcs]
  clear hcs
  have HE1 := Lib.hid he1; clear he1
  have HE2 := Lib.hid he2; clear he2
  go_enter Tryd.func13, Tryd.ntmps13
  go_wp2_with (first
    | (refine wpList_load24 rfl _ rfl _ rfl _ r1 ?_)
    | (go_at_call 14; refine (HV.out _).mono ?_; rintro e w2 ⟨rfl, hb⟩; refine Hid.out ?_))
  refine Lib.hid ?_
  have hbox : BoxA w2 w.heap.size v [b0, b1, b2, b3, b4, b5, b6, b7, b8, b9, b10, b11, b12, b13, b14, b15] := BoxA.below r2 hb (by simp)
  obtain ⟨c0, c1, c2, c3, c4, c5, c6, c7, c8, c9, c10, c11, c12, c13, c14, c15, c16⟩ := hbox.cells17
  have hB : Below w.heap.size w w2 := ((Below.refl _ _).alloc (Nat.le_refl _) _).trans (hb.mono (by simp))
  have hsz : w.heap.size ≤ w2.heap.size := hB.size
  have HB := Lib.hid hB; clear hB hb hbox r1 r2
  go_wp2_with (first
    | (go_at_call 28; refine (kind4_c b0 b1 b2 b3 _).mono ?_; rintro e w3 ⟨rfl, hb3⟩)
    | (go_at_call 29; refine (kind6_c [b0, b1, b2, b3, b4, b5, b6, b7, b8, b9, b10, b11, b12, b13, b14, b15] rfl _).mono ?_; rintro e w3 ⟨rfl, hb3⟩))
  all_goals go_ret
  all_goals (have he1 := HE1.out; have he2 := HE2.out; have hB := HB.out; refine ⟨ret_int (he2 ▸ ?_), ?_⟩)
  · simp_all [kindP]
  · exact hB
  · simp_all [kindP, z16]
  · exact hB
  · simp_all [kindP, z16]
  · exact hB.trans (hb3.mono hsz)
  · simp_all [kindP, z16]
  · exact hB.trans (hb3.mono hsz)
end Go.Proofs.YtclfhajapohogaaDoor
