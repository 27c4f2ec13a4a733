/-
  Less.
-/
import Derived.Test.YtoifolmcdkfniabGreatDoorRow
namespace Go.Proofs.YtoifolmcdkfniabGreatDoor
open Go.ChangeShapes Go.WideShapes Go.ChangeAt Go.RowKit
set_option linter.unusedVariables false
set_option maxHeartbeats 4000000
set_option maxRecDepth 100000

def cmpL (l m : List Int) : Int := Lib.compareBytes (Lib.bytesOf l) (Lib.bytesOf m)
theorem run_bytesOf {w : World} (g o c : Nat) (xs : List Int) (n : Nat) (hx : xs.length = n) (h : ∀ j x, xs[j]? = some x → w.cell? ⟨g, o + j, none⟩ = some (.int .u8 x)) :
    (Extern.Bytes.bytesOf (.slice (some ⟨g, o, none⟩) n c)).run Tryz.prog w = .ok ⟨(Lib.bytesOf xs).toArray⟩ w := by
  have hl := Lib.run_loadBytesX (P := Tryz.prog) w xs ⟨g, o, none⟩ .empty (fun j x hj => by
    have e : (⟨g, o, none⟩ : Addr).add j = ⟨g, o + j, none⟩ := by unfold Addr.add; split <;> simp_all
    rw [e]; exact h j x hj)
  rw [hx] at hl
  have he : (⟨ByteArray.empty.data ++ (Lib.bytesOf xs).toArray⟩ : ByteArray) = ⟨(Lib.bytesOf xs).toArray⟩ := by
    apply ByteArray.ext
    show (#[] : Array UInt8) ++ (Lib.bytesOf xs).toArray = (Lib.bytesOf xs).toArray
    simp
  rw [he] at hl
  exact hl
theorem run_compare {w : World} (g g' o o' c c' : Nat) (xs ys : List Int) (n m : Nat) (hx : xs.length = n) (hy : ys.length = m) (h : ∀ j x, xs[j]? = some x → w.cell? ⟨g, o + j, none⟩ = some (.int .u8 x)) (h' : ∀ j x, ys[j]? = some x → w.cell? ⟨g', o' + j, none⟩ = some (.int .u8 x)) :
    (Extern.BytealgCompare.compare #[.slice (some ⟨g, o, none⟩) n c, .slice (some ⟨g', o', none⟩) m c']).run Tryz.prog w = .ok (.int .i64 (cmpL xs ys)) w := by
  have hs := Lib.run_compareString (P := Tryz.prog) ⟨(Lib.bytesOf xs).toArray⟩ ⟨(Lib.bytesOf ys).toArray⟩ w
  have e1 := run_bytesOf g o c xs n hx h
  have e2 := run_bytesOf g' o' c' ys m hy h'
  change Sem.run Tryz.prog (do pure (goInt (Extern.BytealgCompare.cmp (← Extern.Bytes.bytesOf (.string ⟨(Lib.bytesOf xs).toArray⟩)) (← Extern.Bytes.bytesOf (.string ⟨(Lib.bytesOf ys).toArray⟩))))) w = _ at hs
  change Sem.run Tryz.prog (do pure (goInt (Extern.BytealgCompare.cmp (← Extern.Bytes.bytesOf (.slice (some ⟨g, o, none⟩) n c)) (← Extern.Bytes.bytesOf (.slice (some ⟨g', o', none⟩) m c'))))) w = _
  simp only [Extern.Bytes.bytesOf, Sem.run_bind, Sem.run_pure, Result.andThen] at hs e1 e2 ⊢
  rw [e1]
  dsimp only
  rw [e2]
  exact hs
theorem compare_c (g g' o o' c c' : Nat) (xs ys : List Int) (n m : Nat) (hx : xs.length = n) (hy : ys.length = m) (w : World) (h : ∀ j x, xs[j]? = some x → w.cell? ⟨g, o + j, none⟩ = some (.int .u8 x)) (h' : ∀ j x, ys[j]? = some x → w.cell? ⟨g', o' + j, none⟩ = some (.int .u8 x)) :
    Calls Tryz.prog 49 #[.slice (some ⟨g, o, none⟩) n c, .slice (some ⟨g', o', none⟩) m c'] w fun e w' => e = .returned (.int .i64 (cmpL xs ys)) ∧ w' = w := by
  have hr := run_compare g g' o o' c c' xs ys n m hx hy h h'
  generalize cmpL xs ys = r at hr ⊢
  clear h h' hx hy
  go_enter Tryz.func49, Tryz.ntmps49
  go_wp2
  rw [run_callFunc_extern Tryz.func72 (by kernel_rfl) (by kernel_rfl) (by kernel_rfl) (e := Extern.BytealgCompare.compare) (by kernel_rfl), hr]
  simp only [Result.andThen]
  rw [Oper.upon_value]
  go_wp2
  go_ret
  exact ⟨rfl, rfl⟩
theorem below_drewN {B : Nat} {a w : World} (h : Below B a w) (n : Nat) : Below B a (w.drewN n) := ⟨h.os, h.tape, h.output, h.size, h.block⟩
theorem rowAt_bytes {w : World} {g : Nat} {v : Int} {l : List Int} (h : rowAt w g = some (csA v l)) (j : Nat) (x : Int) (hj : l[j]? = some x) : w.cell? ⟨g, 1 + j, none⟩ = some (.int .u8 x) := by
  obtain ⟨t, hh, hs⟩ := rowAt_some h
  simp [World.cell?, hh, csA, cellsA, Nat.add_comm 1 j, hj]
def lessP (v : Int) (l : List Int) (v' : Int) (l' : List Int) : Bool := if v = v' then decide (cmpL l l' < 0) else decide (v < v')
theorem less_c (v v' : Int) (l l' : List Int) (hl : l.length = 16) (hl' : l'.length = 16) (w : World) :
    Calls Tryz.prog 27 #[.agg (csA v l), .agg (csA v' l')] w fun e w' => e = .returned (.bool (lessP v l v' l')) ∧ Below w.heap.size w w' := by
  obtain ⟨cs, hcs⟩ : ∃ c, c = csA v l := ⟨_, rfl⟩
  obtain ⟨ct, hct⟩ : ∃ c, c = csA v' l' := ⟨_, rfl⟩
  have r1 : rowAt ((w.alloc (.cells cs 37)).alloc (.cells ct 37)) w.heap.size = some (csA v l) := rowAt_old (by rw [hcs]; exact rowAt_new w _ 37 (csA_size hl)) _
  have r2 : rowAt ((w.alloc (.cells cs 37)).alloc (.cells ct 37)) (w.heap.size + 1) = some (csA v' l') := by
    have := rowAt_new (w.alloc (.cells cs 37)) ct 37 (by rw [hct]; exact csA_size hl')
    rw [← hct]
    simpa using this
  have c1 : cs[0]? = some (.int .i64 v) := by rw [hcs]; exact csA_zero v l
  have c2 : ct[0]? = some (.int .i64 v') := by rw [hct]; exact csA_zero v' l'
  have HC : Hid (∀ q, Calls Tryz.prog 49 #[.slice (some ⟨w.heap.size, 1, none⟩) 16 16, .slice (some ⟨w.heap.size + 1, 1, none⟩) 16 16] (((w.alloc (.cells cs 37)).alloc (.cells ct 37)).drewN q) fun e w' => e = .returned (.int .i64 (cmpL l l')) ∧ w' = (((w.alloc (.cells cs 37)).alloc (.cells ct 37)).drewN q)) :=
    Lib.hid (fun q => compare_c _ _ 1 1 16 16 l l' 16 16 hl hl' _ (rowAt_bytes (by rw [rowAt_drewN]; exact r1)) (rowAt_bytes (by rw [rowAt_drewN]; exact r2)))
  obtain ⟨r, hr⟩ : ∃ r, r = cmpL l l' := ⟨_, rfl⟩
  obtain ⟨res, hres⟩ : ∃ b, b = lessP v l v' l' := ⟨_, rfl⟩
  rw [← hr] at HC
  rw [← hcs, ← hct, ← hres]
  have HR : Hid (res = if v = v' then decide (r < 0) else decide (v < v')) := Lib.hid (by rw [hres, hr]; rfl)
  clear r1 r2 hcs hct hr hres
  have hB : Below w.heap.size w ((w.alloc (.cells cs 37)).alloc (.cells ct 37)) := ((Below.refl _ _).alloc (Nat.le_refl _) _).alloc (by simp) _
  have HB := Lib.hid hB; clear hB
  by_cases hv : v = v'
  · subst hv
    go_enter Tryz.func27, Tryz.ntmps27
    go_wp2_with fail
    go_quiet (first | (go_at_call 49; exact Calls.quiet_of_same (HC.out _)))
    go_wp2_with fail
    go_ret
    refine ⟨ret_bool ?_, below_drewN HB.out _⟩
    rw [HR.out]; simp
  · have hne : (v == v') = false := by simp [hv]
    have hne2 : decide (v = v') = false := by simp [hv]
    go_enter Tryz.func27, Tryz.ntmps27
    go_wp2_with fail
    go_ret
    refine ⟨ret_bool ?_, HB.out⟩
    rw [HR.out, if_neg hv]
end Go.Proofs.YtoifolmcdkfniabGreatDoor
