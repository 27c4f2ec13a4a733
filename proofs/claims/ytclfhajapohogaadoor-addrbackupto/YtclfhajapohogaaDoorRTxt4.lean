/-
  The document's fromGroups, parse4.
-/
import Derived.Test.YtclfhajapohogaaDoorRTxt3
import Derived.Test.YtclfhajapohogaaDoorFour
import Derived.Test.YtclfhajapohogaaDoorJoin
namespace Go.Proofs.YtclfhajapohogaaDoor
open Go.ChangeShapes Go.WideShapes Go.ChangeAt Go.RowKit
set_option linter.unusedVariables false
set_option maxHeartbeats 4000000
set_option maxRecDepth 100000

theorem rfrom_c (b : Nat) (gs : List Nat) (cap : Nat) (w : World) (hg : gs.length = 8) (hb : ∀ g ∈ gs, g < 65536) (hblk : b < w.heap.size) (hcell : ∀ (k g : Nat), gs[k]? = some g → w.cell? ⟨b, k, none⟩ = some (.int .i64 (g : Int))) :
    Calls Tryd.prog 56 #[.slice (some ⟨b, 0, none⟩) 8 cap] w fun e w' => e = .returned (.agg (csA 6 (unG gs))) ∧ Below w.heap.size w w' := by
  have HCELL := Lib.hid hcell; clear hcell
  obtain ⟨res, hres⟩ : ∃ r, r = csA 6 (unG gs) := ⟨_, rfl⟩
  rw [← hres]
  have HRES := Lib.hid hres; clear hres
  have r1 : rowAt ((w.alloc (.cells (csA 0 z16) 24)).alloc (.cells (csA 0 z16) 24)) (w.heap.size + 1) = some (csA 0 z16) := rowAt_of (heap_alloc2_new w _ _) rfl
  have r0 : rowAt ((w.alloc (.cells (csA 0 z16) 24)).alloc (.cells (csA 0 z16) 24)) w.heap.size = some (csA 0 z16) := rowAt_of (heap_alloc2_old w _ _) rfl
  have hB : Below w.heap.size w ((w.alloc (.cells (csA 0 z16) 24)).alloc (.cells (csA 0 z16) 24)) := ((Below.refl _ _).alloc (Nat.le_refl _) _).alloc (by simp) _
  have HW : Hid (∀ W, W = ((w.alloc (.cells (csA 0 z16) 24)).alloc (.cells (csA 0 z16) 24)).setRow (w.heap.size + 1) (csA 6 z16) → Below w.heap.size w W ∧ rowAt W (w.heap.size + 1) = some (csA 6 (jn gs 0)) ∧ rowAt W w.heap.size = some (csA 0 z16)) := Lib.hid (by
    rintro W rfl
    have h1 := below_setRow hB (show w.heap.size ≤ w.heap.size + 1 by omega) (csA 6 z16)
    refine ⟨h1, rowAt_setRow r1 _ rfl, ?_⟩
    obtain ⟨t, hh, hs⟩ := rowAt_some r0
    exact rowAt_of (t := t) (by simp only [World.setRow, Array.getElem?_modify]; rw [if_neg (by omega)]; exact hh) hs)
  have e6 : csA 6 z16 = #[.int .i64 6, .int .u8 0, .int .u8 0, .int .u8 0, .int .u8 0, .int .u8 0, .int .u8 0, .int .u8 0, .int .u8 0, .int .u8 0, .int .u8 0, .int .u8 0, .int .u8 0, .int .u8 0, .int .u8 0, .int .u8 0, .int .u8 0] := rfl
  have s6 : (csA 6 z16).size = 17 := rfl
  have o6 := csA_one 6 z16
  rw [csA_z] at r1
  rw [csA_z, e6] at HW
  rw [e6] at s6 o6
  clear r0 hB
  go_enter Tryd.func56, Tryd.ntmps56
  go_wp2_with (refine wpList_store24o rfl _ _ rfl _ rfl _ _ r1 rfl s6 o6 ?_; obtain ⟨k1, k2, k3⟩ := HW.out _ rfl; generalize World.setRow _ _ _ = W at *)
  rw [← csA_z] at k3
  have HX : Hid (Below w.heap.size w W ∧ rowAt W (w.heap.size + 1) = some (csA 6 (jn gs 0)) ∧ rowAt W w.heap.size = some (csA 0 z16)) := Lib.hid ⟨k1, k2, k3⟩
  clear k1 k2 k3 r1 HW e6 s6 o6
  go_loopw [4] (fun i wr => ∃ k : Nat, k ≤ 8 ∧ i = .int .i64 (k : Int) ∧ Below w.heap.size w wr ∧ rowAt wr (w.heap.size + 1) = some (csA 6 (jn gs k)) ∧ rowAt wr w.heap.size = some (csA 0 z16)) (fun i _ => 8 - (intOf i).toNat)
  case atStart => exact ⟨0, by omega, rfl, HX.out⟩
  case round =>
    obtain ⟨k, hk, rfl, hB, d1, d2⟩ := hrel
    by_cases hlt : k < 8
    · obtain ⟨g, hgk⟩ : ∃ g, gs[k]? = some g := ⟨_, List.getElem?_eq_getElem (by omega)⟩
      have hgb : g < 65536 := hb g (List.mem_of_getElem? hgk)
      have cx : wr.cell? ⟨b, k, none⟩ = some (.int .i64 (g : Int)) := (hB.cell hblk).trans (HCELL.out k g hgk)
      have cx2 : ∀ u, (wr.setCell ⟨w.heap.size + 1, 1 + 2 * k, none⟩ u).cell? ⟨b, k, none⟩ = some (.int .i64 (g : Int)) := fun u => by
        rw [World.cell?_of_block (w := wr) (a := ⟨b, k, none⟩) (Below.heap_setCell _ _ _ _ (by simp only; omega))]; exact cx
      have f1 := rowAt_free d1 (1 + 2 * k)
      have f2 : ∀ u, (wr.setCell ⟨w.heap.size + 1, 1 + 2 * k, none⟩ u).frozen? ⟨w.heap.size + 1, 1 + (2 * k + 1), none⟩ = false := fun u => by
        have := rowAt_free d1 (1 + (2 * k + 1))
        simpa using this
      obtain ⟨x, hx⟩ : ∃ x, (jn gs k)[2 * k]? = some x := ⟨_, List.getElem?_eq_getElem (by rw [jn_length gs hg k hk]; omega)⟩
      obtain ⟨y, hy⟩ : ∃ y, (jn gs k)[2 * k + 1]? = some y := ⟨_, List.getElem?_eq_getElem (by rw [jn_length gs hg k hk]; omega)⟩
      have c1 := rowAt_bytes d1 (2 * k) x hx
      have c2 := rowAt_bytes d1 (2 * k + 1) y hy
      have b1 : decide ((k : Int) < 8) = true := by simp; omega
      have b2 : 0 ≤ (k : Int) := by omega
      have b3 : (k : Int) < 8 := by omega
      have b4 : ((k : Int)).toNat = k := by omega
      have b5 : (2 * (k : Int)).toNat = 2 * k := by omega
      have b6 : (2 * (k : Int) + 1).toNat = 2 * k + 1 := by omega
      have hgi : (g : Int) < 65536 := by omega
      clear HX
      have eh : hi g = (g : Int) / 256 := by unfold hi; omega
      have el : lo g = (g : Int) % 256 := by unfold lo; omega
      have HS : Hid (((jn gs k).set (2 * k) ((g : Int) / 256)).set (2 * k + 1) ((g : Int) % 256) = jn gs (k + 1)) := Lib.hid (by rw [← eh, ← el]; exact jn_succ gs hg k hlt g hgk)
      have D := Lib.hid d1; have D2 := Lib.hid d2; have HBB := Lib.hid hB
      clear eh el hx hy hgk d1 d2 hB
      go_wp2_with fail
      go_roundw
      case rel =>
        refine ⟨k + 1, by omega, by go_num, (HBB.out.setCell (by simp) _).setCell (by simp) _, ?_, ?_⟩
        · rw [← HS.out]
          exact rowAt_set (rowAt_set D.out (2 * k) _) (2 * k + 1) _
        · rw [rowAt_set_other (by omega), rowAt_set_other (by omega)]
          exact D2.out
      case measure => simp [intOf]; omega
    · obtain rfl : k = 8 := by omega
      rw [jn_last gs hg] at d1
      have hsz : (csA 6 (unG gs)).size = 17 := csA_size (by rw [unG_length, hg])
      have hon := csA_one 6 (unG gs)
      rw [← HRES.out] at d1 hsz hon
      have HF : Hid (Below w.heap.size w (wr.setRow w.heap.size res) ∧ rowAt (wr.setRow w.heap.size res) w.heap.size = some res) := Lib.hid ⟨below_setRow hB (by omega) _, rowAt_setRow d2 _ hsz⟩
      clear HX hB
      go_wp2_with (first
        | (refine wpList_load24 rfl _ rfl _ rfl _ d1 ?_)
        | (refine wpList_store24o rfl _ _ rfl _ rfl _ _ d2 rfl hsz hon ?_))
      refine bodyPost_ret (v := .agg res) ?_ rfl ⟨rfl, HF.out.1⟩
      exact result24 rfl _ _ _ _ rfl HF.out.2
#print axioms rfrom_c
end Go.Proofs.YtclfhajapohogaaDoor
