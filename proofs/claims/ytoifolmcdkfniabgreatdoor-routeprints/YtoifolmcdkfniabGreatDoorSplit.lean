/-
  split, zeros.
-/
import Derived.Test.YtoifolmcdkfniabGreatDoorJoin
namespace Go.Proofs.YtoifolmcdkfniabGreatDoor
open Go.ChangeShapes Go.WideShapes Go.ChangeAt Go.RowKit
set_option linter.unusedVariables false
set_option maxHeartbeats 4000000
set_option maxRecDepth 100000

/-- The groups of sixteen bytes. -/
def grpOf : List Int → List Nat
  | a :: b :: r => (a.toNat * 256 + b.toNat) :: grpOf r
  | _ => []
theorem grpOf16 (b0 b1 b2 b3 b4 b5 b6 b7 b8 b9 b10 b11 b12 b13 b14 b15 : Int) : grpOf [b0, b1, b2, b3, b4, b5, b6, b7, b8, b9, b10, b11, b12, b13, b14, b15] = [b0.toNat * 256 + b1.toNat, b2.toNat * 256 + b3.toNat, b4.toNat * 256 + b5.toNat, b6.toNat * 256 + b7.toNat, b8.toNat * 256 + b9.toNat, b10.toNat * 256 + b11.toNat, b12.toNat * 256 + b13.toNat, b14.toNat * 256 + b15.toNat] := rfl
theorem grpOf_length {l : List Int} (h : l.length = 16) : (grpOf l).length = 8 := by
  obtain ⟨b0, b1, b2, b3, b4, b5, b6, b7, b8, b9, b10, b11, b12, b13, b14, b15, rfl⟩ := list16 h
  rfl
theorem grpOf_get : ∀ (l : List Int) (k : Nat) (x y : Int), l[2 * k]? = some x → l[2 * k + 1]? = some y → (grpOf l)[k]? = some (x.toNat * 256 + y.toNat)
  | a :: b :: r, 0, x, y, h1, h2 => by simp at h1 h2; subst h1 h2; simp [grpOf]
  | a :: b :: r, k + 1, x, y, h1, h2 => by
    have e1 : 2 * (k + 1) = 2 * k + 1 + 1 := by omega
    rw [e1] at h1 h2
    simp only [List.getElem?_cons_succ] at h1 h2
    simp only [grpOf, List.getElem?_cons_succ]
    exact grpOf_get r k x y h1 h2
  | [], k, x, y, h1, h2 => by simp at h1
  | [a], k, x, y, h1, h2 => by simp at h2
theorem grpOf_lt : ∀ (l : List Int), (∀ x ∈ l, 0 ≤ x ∧ x ≤ 255) → ∀ g ∈ grpOf l, g < 65536
  | a :: b :: r, h, g, hg => by
    simp only [grpOf, List.mem_cons] at hg
    rcases hg with rfl | hg
    · have h1 := h a (by simp); have h2 := h b (by simp); omega
    · exact grpOf_lt r (fun x hx => h x (by simp [hx])) g hg
  | [], h, g, hg => by simp [grpOf] at hg
  | [a], h, g, hg => by simp [grpOf] at hg
theorem unG_grpOf : ∀ (l : List Int), l.length % 2 = 0 → (∀ x ∈ l, 0 ≤ x ∧ x ≤ 255) → unG (grpOf l) = l
  | a :: b :: r, hl, h => by
    have h1 := h a (by simp); have h2 := h b (by simp)
    have ih := unG_grpOf r (by simp at hl; omega) (fun x hx => h x (by simp [hx]))
    simp only [grpOf, unG, ih, hi, lo]
    congr 1
    · omega
    · congr 1; omega
  | [], hl, h => rfl
  | [a], hl, h => by simp at hl
theorem or_word (x y : Nat) (h1 : x < 256) (h2 : y < 256) : bits .or .u16 ((x : Int) * 256) (y : Int) = ((x * 256 + y : Nat) : Int) := by
  have h := u16_or_nat (x * 256) y (by omega) (by omega)
  have e := Nat.two_pow_add_eq_or_of_lt (i := 8) (b := y) (by omega) x
  rw [show x * 256 = 2 ^ 8 * x from by omega] at h ⊢
  rw [e]
  rw [← h]
  congr 1
  omega
theorem run_storeVar54 (W : World) (g : Nat) (t : TypeId) (c c' : Array Value) (h : W.heap[g]? = some (.cells c t (0, 0))) (h2 : c.size = 8) (h1 : c'.size = 8) (h3 : c'.all (·.oneCell') = true) :
    (Instr.storeAt 65 (.pointer (some ⟨g, 0, none⟩)) (.agg c')).run Tryz.prog W = .ok () (W.setRow g c') := by
  simp only [Instr.storeAt, Instr.sureAddr, Sem.run_bind, Sem.run_pure, Result.andThen]
  rw [run_storeVar_row W g t 65 c c' h (by rw [h1]; exact info54) (by rw [h2, h1]) h3]
theorem wpList_store54o {ops : Array Oper} {rest : List Oper} {o : Oper} {a : Act} {W : World} {Q : Exit → Act → World → Prop} (hw : Region.wanted o (yielded ops a.tmps) = true) (x y : Operand) (ho : o.op = .store 65 x y) (g : Nat)
    (hx : a.eval x = .pointer (some ⟨g, 0, none⟩)) (t : TypeId) (c c' : Array Value) (hr : W.heap[g]? = some (.cells c t (0, 0))) (h2 : c.size = 8) (hy : a.eval y = .agg c') (h1 : c'.size = 8) (h3 : c'.all (·.oneCell') = true) (h : wpList Tryz.prog ops Q rest (a.put o.dst undef) (W.setRow g c')) : wpList Tryz.prog ops Q (o :: rest) a W := by
  refine BigFrame.wpList_want hw fun K hK => ?_
  unfold Oper.wp execOp
  simp only [ho, hx, hy, Sem.run_bind, run_storeVar54 W g t c c' hr h2 h1 h3, Result.andThen_ok, Sem.run_pure]
  exact hK _ _ h
theorem csG_one (gs : List Nat) : (csG gs).all (·.oneCell') = true := by
  simp only [csG, Array.all_eq_true_iff_forall_mem]
  intro x hx
  simp only [List.mem_toArray, List.mem_map] at hx
  obtain ⟨n, _, rfl⟩ := hx
  rfl
theorem csG_set (gs : List Nat) (k n : Nat) : (csG gs).setIfInBounds k (.int .u16 (n : Int)) = csG (gs.set k n) := by
  apply Array.ext'
  simp [csG, List.map_set]
def z8' : List Nat := [0, 0, 0, 0, 0, 0, 0, 0]
def mixG (gs : List Nat) (k : Nat) : List Nat := gs.take k ++ List.replicate (8 - k) 0
theorem mixG_step (gs : List Nat) (hg : gs.length = 8) (k : Nat) (hk : k < 8) (n : Nat) (h : gs[k]? = some n) : (mixG gs k).set k n = mixG gs (k + 1) := by
  unfold mixG
  rw [List.take_add_one, h, List.set_append_right _ _ (by simp; omega)]
  rw [show 8 - k = (8 - (k + 1)) + 1 from by omega, List.replicate_succ]
  simp [hg, Nat.min_eq_left (Nat.le_of_lt hk)]
theorem split_c (v : Int) (l : List Int) (hl : l.length = 16) (hb : ∀ x ∈ l, 0 ≤ x ∧ x ≤ 255) (w : World) :
    Calls Tryz.prog 33 #[.agg (csA v l)] w fun e w' => e = .returned (.agg (csG (grpOf l))) ∧ Below w.heap.size w w' := by
  obtain ⟨cs, hcs⟩ : ∃ c, c = csA v l := ⟨_, rfl⟩
  have hgl := grpOf_length hl
  obtain ⟨res, hres⟩ : ∃ r, r = csG (grpOf l) := ⟨_, rfl⟩
  have e8 : csG z8' = #[.int .u16 0, .int .u16 0, .int .u16 0, .int .u16 0, .int .u16 0, .int .u16 0, .int .u16 0, .int .u16 0] := rfl
  have hh := heap3 w (.cells cs 37) (.cells (csG z8') 65) (.cells (csG z8') 65)
  have hB : Below w.heap.size w (((w.alloc (.cells cs 37)).alloc (.cells (csG z8') 65)).alloc (.cells (csG z8') 65)) := (((Below.refl _ _).alloc (Nat.le_refl _) _).alloc (by simp) _).alloc (by rw [sz2]; omega) _
  have HX : Hid (Below w.heap.size w (((w.alloc (.cells cs 37)).alloc (.cells (csG z8') 65)).alloc (.cells (csG z8') 65)) ∧ rowAt (((w.alloc (.cells cs 37)).alloc (.cells (csG z8') 65)).alloc (.cells (csG z8') 65)) w.heap.size = some (csA v l) ∧ (((w.alloc (.cells cs 37)).alloc (.cells (csG z8') 65)).alloc (.cells (csG z8') 65)).heap[w.heap.size + 1]? = some (.cells (csG z8') 65 (0, 0)) ∧ (((w.alloc (.cells cs 37)).alloc (.cells (csG z8') 65)).alloc (.cells (csG z8') 65)).heap[w.heap.size + 1 + 1]? = some (.cells (csG (mixG (grpOf l) 0)) 65 (0, 0))) := Lib.hid ⟨hB, by rw [← hcs]; exact rowAt_of hh.1 (by rw [hcs]; exact csA_size hl), hh.2.1, hh.2.2⟩
  rw [← hcs, ← hres]
  have HRES := Lib.hid hres
  rw [e8] at HX
  clear hres hh hB hcs
  go_enter Tryz.func33, Tryz.ntmps33
  go_wp2_with fail
  rw [← e8] at HX
  go_loopw [5] (fun i wr => ∃ k : Nat, k ≤ 8 ∧ i = .int .i64 (k : Int) ∧ Below w.heap.size w wr ∧ rowAt wr w.heap.size = some (csA v l) ∧ wr.heap[w.heap.size + 1]? = some (.cells (csG z8') 65 (0, 0)) ∧ wr.heap[w.heap.size + 1 + 1]? = some (.cells (csG (mixG (grpOf l) k)) 65 (0, 0))) (fun i _ => 8 - (intOf i).toNat)
  case atStart => exact ⟨0, by omega, rfl, HX.out⟩
  case round =>
    obtain ⟨k, hk, rfl, hB, d0, d1, d2⟩ := hrel
    by_cases hlt : k < 8
    · obtain ⟨x, hx⟩ : ∃ x, l[2 * k]? = some x := ⟨_, List.getElem?_eq_getElem (by omega)⟩
      obtain ⟨y, hy⟩ : ∃ y, l[2 * k + 1]? = some y := ⟨_, List.getElem?_eq_getElem (by omega)⟩
      have hg1 := grpOf_get l k x y hx hy
      obtain ⟨hx0, hx1⟩ := hb x (List.mem_of_getElem? hx)
      obtain ⟨hy0, hy1⟩ := hb y (List.mem_of_getElem? hy)
      have c1 := rowAt_bytes d0 (2 * k) x hx
      have c2 := rowAt_bytes d0 (2 * k + 1) y hy
      obtain ⟨xn, hxn⟩ : ∃ n : Nat, x = (n : Int) := ⟨x.toNat, by omega⟩
      obtain ⟨yn, hyn⟩ : ∃ n : Nat, y = (n : Int) := ⟨y.toNat, by omega⟩
      subst hxn hyn
      have how := or_word xn yn (by omega) (by omega)
      obtain ⟨zv, hzv⟩ : ∃ z, (csG (mixG (grpOf l) k))[k]? = some z := ⟨_, Array.getElem?_eq_getElem (by simp [csG, mixG, hgl]; omega)⟩
      have c3 : wr.cell? ⟨w.heap.size + 1 + 1, k, none⟩ = some zv := by simp [World.cell?, d2, hzv]
      have f3 : wr.frozen? ⟨w.heap.size + 1 + 1, k, none⟩ = false := by simp [World.frozen?, d2]
      have b1 : decide ((k : Int) < 8) = true := by simp; omega
      have b2 : 0 ≤ (k : Int) := by omega
      have b3 : (k : Int) < 8 := by omega
      have b4 : ((k : Int)).toNat = k := by omega
      have b5 : (2 * (k : Int)).toNat = 2 * k := by omega
      have b6 : (2 * (k : Int) + 1).toNat = 2 * k + 1 := by omega
      have KEY : Hid (∀ W, W = (wr.setCell ⟨w.heap.size + 1 + 1, k, none⟩ (.int .u16 ((xn : Int) * 256 + (yn : Int)))).drew → Below w.heap.size w W ∧ rowAt W w.heap.size = some (csA v l) ∧ W.heap[w.heap.size + 1]? = some (.cells (csG z8') 65 (0, 0)) ∧ W.heap[w.heap.size + 1 + 1]? = some (.cells (csG (mixG (grpOf l) (k + 1))) 65 (0, 0))) := Lib.hid (by
        rintro W rfl
        rw [show (xn : Int) * 256 + (yn : Int) = ((xn * 256 + yn : Nat) : Int) from by omega]
        refine ⟨(hB.setCell (by simp; omega) _).drew, ?_, ?_, ?_⟩
        · rw [rowAt_drew, rowAt_set_other (by omega)]; exact d0
        · rw [heap_drew, Below.heap_setCell _ _ _ _ (by simp)]; exact d1
        · rw [heap_drew, ← mixG_step (grpOf l) hgl k hlt _ hg1, ← csG_set]
          simp [World.setCell, Array.getElem?_modify, d2])
      clear HX hB d0 d1 d2 hx hy hg1 hzv
      go_wp2_with fail
      go_region
      all_goals (go_wp2_with fail; go_roundw)
      all_goals first | exact ⟨k + 1, by omega, by go_num, KEY.out _ rfl⟩ | (simp [intOf]; omega)
    · obtain rfl : k = 8 := by omega
      have e1 : mixG (grpOf l) 8 = grpOf l := by simp [mixG, List.take_of_length_le, hgl]
      rw [e1, ← HRES.out] at d2
      have hs : res.size = 8 := by rw [HRES.out]; simp [csG, hgl]
      have ho : res.all (·.oneCell') = true := by rw [HRES.out]; exact csG_one _
      have hz : (csG z8').size = 8 := rfl
      have HF : Hid (Below w.heap.size w (wr.setRow (w.heap.size + 1) res) ∧ (wr.setRow (w.heap.size + 1) res).heap[w.heap.size + 1]? = some (.cells res 65 (0, 0))) := Lib.hid ⟨below_setRow hB (by omega) _, by simp [World.setRow, Array.getElem?_modify, d1]⟩
      clear HX hB
      go_wp2_with (first
        | (refine wpList_load54 rfl _ rfl _ rfl _ _ d2 hs ?_)
        | (refine wpList_store54o rfl _ _ rfl _ rfl _ _ _ d1 hz rfl hs ho ?_))
      refine bodyPost_ret (v := .agg res) ?_ rfl ⟨rfl, HF.out.1⟩
      exact results_cell_row rfl _ _ _ 65 res (0, 0) _ rfl HF.out.2 Tryz.underlying65 rfl (by rw [hs]; exact info54)

/-- The longest run of noughts so far, and where the run at hand began. -/
def zst (gs : List Nat) : Nat → Nat × Nat × Nat
  | 0 => (0, 0, 0)
  | k + 1 => if gs.getD k 0 ≠ 0 then ((zst gs k).1, (zst gs k).2.1, k + 1)
    else if (zst gs k).2.1 - (zst gs k).1 < k + 1 - (zst gs k).2.2 then ((zst gs k).2.2, k + 1, (zst gs k).2.2) else zst gs k
theorem zst_le (gs : List Nat) : ∀ k, (zst gs k).1 ≤ (zst gs k).2.1 ∧ (zst gs k).2.1 ≤ k ∧ (zst gs k).2.2 ≤ k
  | 0 => by simp [zst]
  | k + 1 => by
    have ih := zst_le gs k
    unfold zst
    split
    · simp; omega
    · split
      · simp; omega
      · omega
theorem zeros_c (gs : List Nat) (hg : gs.length = 8) (hb : ∀ g ∈ gs, g < 65536) (w : World) :
    Calls Tryz.prog 34 #[.agg (csG gs)] w fun e w' => e = .returned (.tuple #[.int .i64 ((zst gs 8).1 : Int), .int .i64 ((zst gs 8).2.1 : Int)]) ∧ Below w.heap.size w w' := by
  obtain ⟨cs, hcs⟩ : ∃ c, c = csG gs := ⟨_, rfl⟩
  have hcz : cs.size = 8 := by rw [hcs]; simp [csG, hg]
  have HCELL : Hid (∀ (k g : Nat), gs[k]? = some g → cs[k]? = some (.int .u16 (g : Int))) := Lib.hid (fun k g h => by rw [hcs]; simp [csG, h])
  have h1 : (w.alloc (.cells cs 65)).heap[w.heap.size]? = some (.cells cs 65 (0, 0)) := heap_alloc_new w _
  have HB : Hid (Below w.heap.size w (w.alloc (.cells cs 65))) := Lib.hid ((Below.refl _ _).alloc (Nat.le_refl _) _)
  rw [← hcs]
  clear hcs
  obtain ⟨rf, hrf⟩ : ∃ r, r = (zst gs 8).1 := ⟨_, rfl⟩
  obtain ⟨rt, hrt⟩ : ∃ r, r = (zst gs 8).2.1 := ⟨_, rfl⟩
  rw [← hrf, ← hrt]
  have HRF := Lib.hid hrf; have HRT := Lib.hid hrt
  clear hrf hrt
  go_enter Tryz.func34, Tryz.ntmps34
  go_wp2_with (refine wpList_load54 rfl _ rfl _ rfl _ _ h1 hcz ?_)
  generalize w.alloc (.cells cs 65) = W at *
  go_loopw [8, 2, 3, 4] (fun i f t s wr => ∃ k : Nat, k ≤ 8 ∧ i = .int .i64 (k : Int) ∧ f = .int .i64 ((zst gs k).1 : Int) ∧ t = .int .i64 ((zst gs k).2.1 : Int) ∧ s = .int .i64 ((zst gs k).2.2 : Int) ∧ wr = W) (fun i _ _ _ _ => 8 - (intOf i).toNat)
  case atStart => exact ⟨0, by omega, rfl, rfl, rfl, rfl, rfl⟩
  case round =>
    obtain ⟨k, hk, rfl, rfl, rfl, rfl, rfl⟩ := hrel
    by_cases hlt : k < 8
    · obtain ⟨g, hgk⟩ : ∃ g, gs[k]? = some g := ⟨_, List.getElem?_eq_getElem (by omega)⟩
      have hgb : g < 65536 := hb g (List.mem_of_getElem? hgk)
      have cx := index54 cs k hlt _ (HCELL.out k g hgk)
      have hle := zst_le gs k
      have HST : Hid (zst gs (k + 1) = if g ≠ 0 then ((zst gs k).1, (zst gs k).2.1, k + 1) else if (zst gs k).2.1 - (zst gs k).1 < k + 1 - (zst gs k).2.2 then ((zst gs k).2.2, k + 1, (zst gs k).2.2) else zst gs k) := Lib.hid (by
        have : gs.getD k 0 = g := by rw [List.getD_eq_getElem?_getD, hgk]; rfl
        rw [← this]; rfl)
      obtain ⟨z, hz⟩ : ∃ z, z = zst gs k := ⟨_, rfl⟩
      rw [← hz] at HST hle ⊢
      obtain ⟨f, t, s⟩ := z
      simp only at hle HST ⊢
      obtain ⟨hle1, hle2, hle3⟩ := hle
      have HZ := Lib.hid hz
      have b1 : decide ((k : Int) < 8) = true := by simp; omega
      have b2 : 0 ≤ (k : Int) := by omega
      have b3 : (k : Int) < 8 := by omega
      clear hgk hz
      by_cases hg0 : g = 0
      · subst hg0
        by_cases hc : t - f < k + 1 - s
        · have i1 : decide ((t : Int) - (f : Int) < (k : Int) + 1 - (s : Int)) = true := by simp; omega
          have i2 : (t : Int) - (f : Int) < (k : Int) + 1 - (s : Int) := by omega
          have hst : zst gs (k + 1) = (s, k + 1, s) := by rw [HST.out, if_neg (by simp), if_pos hc]
          have HST2 := Lib.hid hst; clear hst HST
          go_wp2_with fail
          go_roundw
          case rel => refine ⟨k + 1, by omega, by go_num, ?_, ?_, ?_, trivial⟩ <;> rw [HST2.out] <;> first | rfl | (congr 1; omega)
          case measure => simp [intOf]; omega
        · have i1 : decide ((t : Int) - (f : Int) < (k : Int) + 1 - (s : Int)) = false := by simp; omega
          have i2 : (k : Int) + 1 - (s : Int) ≤ (t : Int) - (f : Int) := by omega
          have hst : zst gs (k + 1) = (f, t, s) := by rw [HST.out, if_neg (by simp), if_neg hc]
          have HST2 := Lib.hid hst; clear hst HST
          go_wp2_with fail
          go_roundw
          case rel => refine ⟨k + 1, by omega, by go_num, ?_, ?_, ?_, trivial⟩ <;> rw [HST2.out] <;> first | rfl | (congr 1; omega)
          case measure => simp [intOf]; omega
      · have i1 : ((g : Int) == 0) = false := by simp; omega
        have i2 : (g : Int) ≠ 0 := by omega
        have hst : zst gs (k + 1) = (f, t, k + 1) := by rw [HST.out, if_pos (by simpa using hg0)]
        have HST2 := Lib.hid hst; clear hst HST
        go_wp2_with fail
        go_roundw
        case rel => refine ⟨k + 1, by omega, by go_num, ?_, ?_, ?_, trivial⟩ <;> rw [HST2.out] <;> first | rfl | (congr 1; omega)
        case measure => simp [intOf]; omega
    · obtain rfl : k = 8 := by omega
      rw [← HRF.out, ← HRT.out]
      go_wp2_with fail
      go_ret2
      exact ⟨rfl, HB.out⟩
end Go.Proofs.YtoifolmcdkfniabGreatDoor
