/-
  join: eight groups as an address.
-/
import Derived.Test.YtoifolmcdkfniabGreatDoorMask
import Derived.Test.YtoifolmcdkfniabGreatDoorNum
namespace Go.Proofs.YtoifolmcdkfniabGreatDoor
open Go.ChangeShapes Go.WideShapes Go.ChangeAt Go.RowKit
set_option linter.unusedVariables false
set_option maxHeartbeats 4000000
set_option maxRecDepth 100000

def csG (gs : List Nat) : Array Value := (gs.map (fun g : Nat => Value.int .u16 (g : Int))).toArray
def jn (gs : List Nat) (k : Nat) : List Int := unG (gs.take k) ++ List.replicate (16 - 2 * k) 0
theorem unG_app : ∀ (a b : List Nat), unG (a ++ b) = unG a ++ unG b
  | [], b => rfl
  | x :: a, b => by simp [unG, unG_app a b]
theorem jn_zero (gs : List Nat) : jn gs 0 = z16 := rfl
theorem jn_length (gs : List Nat) (hg : gs.length = 8) (k : Nat) (hk : k ≤ 8) : (jn gs k).length = 16 := by simp [jn, unG_length, hg]; omega
theorem jn_last (gs : List Nat) (hg : gs.length = 8) : jn gs 8 = unG gs := by simp [jn, List.take_of_length_le, hg]
theorem jn_succ (gs : List Nat) (hg : gs.length = 8) (k : Nat) (hk : k < 8) (g : Nat) (h : gs[k]? = some g) : ((jn gs k).set (2 * k) (hi g)).set (2 * k + 1) (lo g) = jn gs (k + 1) := by
  have ht : gs.take (k + 1) = gs.take k ++ [g] := by
    rw [List.take_add_one, h]; rfl
  have hl : (unG (gs.take k)).length = 2 * k := by simp [unG_length, hg]; omega
  unfold jn
  rw [ht, unG_app]
  rw [show 16 - 2 * k = (16 - 2 * (k + 1)) + 1 + 1 from by omega, List.replicate_succ, List.replicate_succ]
  rw [List.set_append_right _ _ (by omega), List.set_append_right _ _ (by omega), hl]
  simp [unG]
theorem info54 : (Tryz.prog.info? 65).map (·.size) = some 8 := by kernel_rfl
theorem load54 {w : World} {g : Nat} {cs : Array Value} {t : TypeId} (h : w.heap[g]? = some (.cells cs t (0, 0))) (hs : cs.size = 8) : (Instr.loadAt 65 (.pointer (some ⟨g, 0, none⟩))).run Tryz.prog w = .ok (.agg cs) w := by
  simp only [Instr.loadAt, Instr.sureAddr, Sem.run_bind, Sem.run_pure, Result.andThen]
  rw [run_loadVar_row w g t 65 cs (0, 0) _ h Tryz.underlying65 rfl (by rw [hs]; exact info54)]
theorem wpList_load54 {ops : Array Oper} {rest : List Oper} {o : Oper} {a : Act} {w : World} {Q : Exit → Act → World → Prop} (hw : Region.wanted o (yielded ops a.tmps) = true) (x : Operand) (ho : o.op = .load 65 x)
    (g : Nat) (hx : a.eval x = .pointer (some ⟨g, 0, none⟩)) (cs : Array Value) (t : TypeId) (hh : w.heap[g]? = some (.cells cs t (0, 0))) (hs : cs.size = 8) (h : wpList Tryz.prog ops Q rest (a.put o.dst (.agg cs)) w) : wpList Tryz.prog ops Q (o :: rest) a w :=
  BigFrame.wpList_want hw fun K hK => wp_load_row 65 x ho g hx t cs (0, 0) _ hh Tryz.underlying65 rfl (by rw [hs]; exact info54) (hK _ _ h)
theorem heap3 (w : World) (A B C : Obj) : (((w.alloc A).alloc B).alloc C).heap[w.heap.size]? = some A ∧ (((w.alloc A).alloc B).alloc C).heap[w.heap.size + 1]? = some B ∧ (((w.alloc A).alloc B).alloc C).heap[w.heap.size + 2]? = some C := by
  refine ⟨?_, ?_, ?_⟩
  · rw [Below.heap_alloc _ _ _ (by rw [sz2]; omega)]; exact heap_alloc2_old w A B
  · rw [Below.heap_alloc _ _ _ (by rw [sz2]; omega)]; exact heap_alloc2_new w A B
  · have := heap_alloc_new ((w.alloc A).alloc B) C
    rwa [sz2] at this
theorem index54 (cs : Array Value) (k : Nat) (hk : k < 8) (g : Int) (h : cs[k]? = some (.int .u16 g)) (w : World) : (Instr.index 65 (.agg cs) (.int .i64 (k : Int))).run Tryz.prog w = .ok (.int .u16 g) w := by
  have hz : (sizeOf 64).run Tryz.prog w = .ok 1 w := by kernel_rfl
  have hp := part_int 64 .u16 Tryz.underlying64 cs (k * 1) g (by simpa using h) w
  simp only [Instr.index, asIntOf, Sem.run_bind, Sem.run_pure, Result.andThen, run_underlying Tryz.underlying65]
  rw [if_pos (by omega), Sem.run_bind, hz]
  simpa [Result.andThen] using hp
theorem join_c (gs : List Nat) (hg : gs.length = 8) (hb : ∀ g ∈ gs, g < 65536) (w : World) :
    Calls Tryz.prog 101 #[.agg (csG gs)] w fun e w' => e = .returned (.agg (csA 6 (unG gs))) ∧ Below w.heap.size w w' := by
  obtain ⟨cs, hcs⟩ : ∃ c, c = csG gs := ⟨_, rfl⟩
  have hcz : cs.size = 8 := by rw [hcs]; simp [csG, hg]
  have hcell : ∀ (k g : Nat), gs[k]? = some g → cs[k]? = some (.int .u16 (g : Int)) := fun k g h => by rw [hcs]; simp [csG, h]
  have HCELL := Lib.hid hcell; clear hcell
  obtain ⟨res, hres⟩ : ∃ r, r = csA 6 (unG gs) := ⟨_, rfl⟩
  rw [← hcs, ← hres]
  have HRES := Lib.hid hres; clear hres hcs
  have r3 : rowAt (((w.alloc (.cells cs 65)).alloc (.cells (csA 0 z16) 37)).alloc (.cells (csA 0 z16) 37)) (w.heap.size + 1 + 1) = some (csA 0 z16) := rowAt_of (heap3 w _ _ _).2.2 rfl
  have r2 : rowAt (((w.alloc (.cells cs 65)).alloc (.cells (csA 0 z16) 37)).alloc (.cells (csA 0 z16) 37)) (w.heap.size + 1) = some (csA 0 z16) := rowAt_of (heap3 w _ _ _).2.1 rfl
  have r1 : (((w.alloc (.cells cs 65)).alloc (.cells (csA 0 z16) 37)).alloc (.cells (csA 0 z16) 37)).heap[w.heap.size]? = some (.cells cs 65 (0, 0)) := (heap3 w _ _ _).1
  have hB : Below w.heap.size w (((w.alloc (.cells cs 65)).alloc (.cells (csA 0 z16) 37)).alloc (.cells (csA 0 z16) 37)) := (((Below.refl _ _).alloc (Nat.le_refl _) _).alloc (by simp) _).alloc (by rw [sz2]; omega) _
  have HW : Hid (∀ W, W = (((w.alloc (.cells cs 65)).alloc (.cells (csA 0 z16) 37)).alloc (.cells (csA 0 z16) 37)).setRow (w.heap.size + 1 + 1) (csA 6 z16) → Below w.heap.size w W ∧ rowAt W (w.heap.size + 1 + 1) = some (csA 6 z16) ∧ rowAt W (w.heap.size + 1) = some (csA 0 z16) ∧ W.heap[w.heap.size]? = some (.cells cs 65 (0, 0))) := Lib.hid (by
    rintro W rfl
    refine ⟨below_setRow hB (by omega) _, rowAt_setRow r3 _ rfl, ?_, ?_⟩
    · obtain ⟨t, hh, hs⟩ := rowAt_some r2
      exact rowAt_of (t := t) (by simp only [World.setRow, Array.getElem?_modify]; rw [if_neg (by omega)]; exact hh) hs
    · simp only [World.setRow, Array.getElem?_modify]; rw [if_neg (by omega)]; exact r1)
  clear r2 hB r1
  have e6 : csA 6 z16 = #[.int .i64 6, .int .u8 0, .int .u8 0, .int .u8 0, .int .u8 0, .int .u8 0, .int .u8 0, .int .u8 0, .int .u8 0, .int .u8 0, .int .u8 0, .int .u8 0, .int .u8 0, .int .u8 0, .int .u8 0, .int .u8 0, .int .u8 0] := rfl
  have s6 : (csA 6 z16).size = 17 := rfl
  have o6 := csA_one 6 z16
  rw [csA_z] at r3
  rw [csA_z, e6] at HW
  rw [e6] at s6 o6
  go_enter Tryz.func101, Tryz.ntmps101
  go_wp2_with (first
    | (refine wpList_store24o rfl _ _ rfl _ rfl _ _ r3 rfl s6 o6 ?_; obtain ⟨k1, k2, k3, k4⟩ := HW.out _ rfl; generalize World.setRow _ _ _ = W at *)
    | (refine wpList_load54 rfl _ rfl _ rfl _ _ k4 hcz ?_))
  have HX : Hid (Below w.heap.size w W ∧ rowAt W (w.heap.size + 1 + 1) = some (csA 6 (jn gs 0)) ∧ rowAt W (w.heap.size + 1) = some (csA 0 z16)) := Lib.hid ⟨k1, by rw [jn_zero, e6]; exact k2, k3⟩
  clear k1 k2 k3 k4 r3 HW e6 s6 o6
  go_loopw [8] (fun i wr => ∃ k : Nat, k ≤ 8 ∧ i = .int .i64 (k : Int) ∧ Below w.heap.size w wr ∧ rowAt wr (w.heap.size + 1 + 1) = some (csA 6 (jn gs k)) ∧ rowAt wr (w.heap.size + 1) = some (csA 0 z16)) (fun i _ => 8 - (intOf i).toNat)
  case atStart => exact ⟨0, by omega, rfl, HX.out⟩
  case round =>
    obtain ⟨k, hk, rfl, hB, d1, d2⟩ := hrel
    by_cases hlt : k < 8
    · obtain ⟨g, hgk⟩ : ∃ g, gs[k]? = some g := ⟨_, List.getElem?_eq_getElem (by omega)⟩
      have hgb : g < 65536 := hb g (List.mem_of_getElem? hgk)
      have cx := index54 cs k hlt _ (HCELL.out k g hgk)
      have f1 := rowAt_free d1 (1 + 2 * k)
      have f2 : ∀ u, (wr.setCell ⟨w.heap.size + 1 + 1, 1 + 2 * k, none⟩ u).frozen? ⟨w.heap.size + 1 + 1, 1 + (2 * k + 1), none⟩ = false := fun u => by
        have := rowAt_free d1 (1 + (2 * k + 1))
        simpa using this
      obtain ⟨x, hx⟩ : ∃ x, (jn gs k)[2 * k]? = some x := ⟨_, List.getElem?_eq_getElem (by rw [jn_length gs hg k hk]; omega)⟩
      obtain ⟨y, hy⟩ : ∃ y, (jn gs k)[2 * k + 1]? = some y := ⟨_, List.getElem?_eq_getElem (by rw [jn_length gs hg k hk]; omega)⟩
      have c1 := rowAt_bytes d1 (2 * k) x hx
      have c2 := rowAt_bytes d1 (2 * k + 1) y hy
      have b1 : decide ((k : Int) < 8) = true := by simp; omega
      have b2 : 0 ≤ (k : Int) := by omega
      have b3 : (k : Int) < 8 := by omega
      have b4 : ((k : Int)).toNat = k := by omega
      have b5 : (2 * (k : Int)).toNat = 2 * k := by omega
      have b6 : (2 * (k : Int) + 1).toNat = 2 * k + 1 := by omega
      have hgi : (g : Int) < 65536 := by omega
      clear HX
      have eh : hi g = (g : Int) / 256 := by unfold hi; omega
      have el : lo g = (g : Int) % 256 := by unfold lo; omega
      have HS : Hid (((jn gs k).set (2 * k) ((g : Int) / 256)).set (2 * k + 1) ((g : Int) % 256) = jn gs (k + 1)) := Lib.hid (by rw [← eh, ← el]; exact jn_succ gs hg k hlt g hgk)
      have D := Lib.hid d1; have D2 := Lib.hid d2; have HBB := Lib.hid hB
      clear eh el hx hy hgk d1 d2 hB
      go_wp2_with fail
      go_roundw
      case rel =>
        refine ⟨k + 1, by omega, by go_num, (HBB.out.setCell (by simp; omega) _).setCell (by simp; omega) _, ?_, ?_⟩
        · rw [← HS.out]
          exact rowAt_set (rowAt_set D.out (2 * k) _) (2 * k + 1) _
        · rw [rowAt_set_other (by omega), rowAt_set_other (by omega)]
          exact D2.out
      case measure => simp [intOf]; omega
    · obtain rfl : k = 8 := by omega
      rw [jn_last gs hg] at d1
      have hsz : (csA 6 (unG gs)).size = 17 := csA_size (by rw [unG_length, hg])
      have hon := csA_one 6 (unG gs)
      rw [← HRES.out] at d1 hsz hon
      have HF : Hid (Below w.heap.size w (wr.setRow (w.heap.size + 1) res) ∧ rowAt (wr.setRow (w.heap.size + 1) res) (w.heap.size + 1) = some res) := Lib.hid ⟨below_setRow hB (by omega) _, rowAt_setRow d2 _ hsz⟩
      clear HX hB
      go_wp2_with (first
        | (refine wpList_load24 rfl _ rfl _ rfl _ d1 ?_)
        | (refine wpList_store24o rfl _ _ rfl _ rfl _ _ d2 rfl hsz hon ?_))
      refine bodyPost_ret (v := .agg res) ?_ rfl ⟨rfl, HF.out.1⟩
      exact result24 rfl _ _ _ _ rfl HF.out.2
end Go.Proofs.YtoifolmcdkfniabGreatDoor
