/-
  Mask.
-/
import Derived.Test.YtoifolmcdkfniabGreatDoorLess
import Derived.Test.YtoifolmcdkfniabGreatDoorLeaf
namespace Go.Proofs.YtoifolmcdkfniabGreatDoor
open Go.ChangeShapes Go.WideShapes Go.ChangeAt Go.RowKit
set_option linter.unusedVariables false
set_option maxHeartbeats 4000000
set_option maxRecDepth 100000

def kept (bs : Int) (k : Nat) : Int := min (max (bs - 8 * (k : Int)) 0) 8
theorem kept_bd (bs : Int) (k : Nat) : 0 ≤ kept bs k ∧ kept bs k ≤ 8 := by unfold kept; omega
theorem sz2 (w : World) (a b : Obj) : ((w.alloc a).alloc b).heap.size = w.heap.size + 2 := by simp
theorem lt2 (w : World) (a b : Obj) : w.heap.size < ((w.alloc a).alloc b).heap.size := by rw [sz2]; omega
theorem lt2' (w : World) (a b : Obj) : w.heap.size + 1 < ((w.alloc a).alloc b).heap.size := by rw [sz2]; omega
theorem rowAt_free {w : World} {g : Nat} {cs : Array Value} (h : rowAt w g = some cs) (i : Nat) : w.frozen? ⟨g, i, none⟩ = false := by
  obtain ⟨t, hh, hs⟩ := rowAt_some h
  simp [World.frozen?, hh]
def mb (q b : Int) : Int := bits .andNot .u8 b (255 / 2 ^ q.toNat)
def maskL (bs : Int) : Nat → List Int → List Int
  | _, [] => []
  | k, b :: r => mb (kept bs k) b :: maskL bs (k + 1) r
theorem maskL_length (bs : Int) : ∀ (k : Nat) (l : List Int), (maskL bs k l).length = l.length
  | _, [] => rfl
  | k, b :: r => by simp [maskL, maskL_length bs (k + 1) r]
theorem maskL_get (bs : Int) : ∀ (k : Nat) (l : List Int) (j : Nat), (maskL bs k l)[j]? = (l[j]?).map (mb (kept bs (k + j)))
  | _, [], j => by simp [maskL]
  | k, b :: r, 0 => by simp [maskL]
  | k, b :: r, j + 1 => by simp [maskL, maskL_get bs (k + 1) r j, Nat.add_comm 1 j, Nat.add_assoc]
def mixL (bs : Int) (l : List Int) (k : Nat) : List Int := (maskL bs 0 l).take k ++ l.drop k
theorem mixL_zero (bs : Int) (l : List Int) : mixL bs l 0 = l := by simp [mixL]
theorem mixL_length (bs : Int) {l : List Int} (hl : l.length = 16) (k : Nat) : (mixL bs l k).length = 16 := by simp [mixL, maskL_length, hl]; omega
theorem mixL_get (bs : Int) {l : List Int} (hl : l.length = 16) (k : Nat) (hk : k ≤ 16) (i : Nat) : (mixL bs l k)[i]? = if i < k then (l[i]?).map (mb (kept bs i)) else l[i]? := by
  unfold mixL
  rw [List.getElem?_append, List.length_take, maskL_length, hl, Nat.min_eq_left hk]
  by_cases c : i < k
  · rw [if_pos c, if_pos c, List.getElem?_take, if_pos c, maskL_get, Nat.zero_add]
  · rw [if_neg c, if_neg c, List.getElem?_drop]
    congr 1
    omega
theorem mixL_succ (bs : Int) {l : List Int} (hl : l.length = 16) (k : Nat) (hk : k < 16) (b : Int) (hb : (mixL bs l k)[k]? = some b) : (mixL bs l k).set k (mb (kept bs k) b) = mixL bs l (k + 1) := by
  have hb2 : l[k]? = some b := by
    rw [mixL_get bs hl k (by omega), if_neg (by omega)] at hb
    exact hb
  apply List.ext_getElem?
  intro i
  rw [List.getElem?_set, mixL_get bs hl (k + 1) (by omega), mixL_get bs hl k (by omega), mixL_length bs hl]
  by_cases e : k = i
  · subst e
    rw [if_pos rfl, if_pos hk, if_pos (by omega), hb2]
    rfl
  · rw [if_neg e]
    by_cases c : i < k
    · rw [if_pos c, if_pos (by omega)]
    · rw [if_neg c, if_neg (by omega)]
theorem rowAt_set {w : World} {g : Nat} {v : Int} {m : List Int} (h : rowAt w g = some (csA v m)) (k : Nat) (b : Int) : rowAt (w.setCell ⟨g, 1 + k, none⟩ (.int .u8 b)) g = some (csA v (m.set k b)) := by
  obtain ⟨t, hh, hs⟩ := rowAt_some h
  refine rowAt_of (t := t) ?_ (by simpa [csA, cellsA] using hs)
  simp [World.setCell, Array.getElem?_modify, hh, csA, cellsA, Nat.add_comm 1 k, List.map_set]
theorem rowAt_set_other {w : World} {g g' : Nat} (hg : g' ≠ g) (i : Nat) (u : Value) : rowAt (w.setCell ⟨g, i, none⟩ u) g' = rowAt w g' := by
  unfold rowAt; rw [Below.heap_setCell _ _ _ _ hg]
def maskOk (v : Int) (l : List Int) (bs : Int) : Bool := validP v l && (decide (0 ≤ bs) && decide (bs ≤ if v = 4 then 32 else 128))
def maskA (v : Int) (l : List Int) (bs : Int) : Array Value := if maskOk v l bs = true then csA v (maskL bs 0 l) else csA 0 z16
def maskE (v : Int) (l : List Int) (bs : Int) : Int := if maskOk v l bs = true then 0 else 1
theorem mask_c (v : Int) (l : List Int) (hl : l.length = 16) (bs : Int) (w : World) :
    Calls Tryz.prog 46 #[.agg (csA v l), .int .i64 bs] w fun e w' => e = .returned (.tuple #[.agg (maskA v l bs), .int .i64 (maskE v l bs)]) ∧ Below w.heap.size w w' := by
  obtain ⟨cs, hcs⟩ : ∃ c, c = csA v l := ⟨_, rfl⟩
  have r1 : rowAt ((w.alloc (.cells cs 37)).alloc (.cells (csA 0 z16) 37)) w.heap.size = some cs := rowAt_old (rowAt_new w _ 37 (by rw [hcs]; exact csA_size hl)) _
  have r2 : rowAt ((w.alloc (.cells cs 37)).alloc (.cells (csA 0 z16) 37)) (w.heap.size + 1) = some (csA 0 z16) := by
    have := rowAt_new (w.alloc (.cells cs 37)) (csA 0 z16) 37 (csA_size rfl)
    simpa using this
  have c1 : cs[0]? = some (.int .i64 v) := by rw [hcs]; exact csA_zero v l
  obtain ⟨e1, he1⟩ : ∃ e1, e1 = validP v l := ⟨_, rfl⟩
  obtain ⟨wd, hwd⟩ : ∃ wd : Int, wd = if v = 4 then 32 else 128 := ⟨_, rfl⟩
  have HV : Hid (∀ W, Calls Tryz.prog 31 #[.agg cs] W fun e w' => e = .returned (.bool e1) ∧ Below W.heap.size W w') := Lib.hid (fun W => by rw [hcs, he1]; exact valid_c v l hl W)
  have HW : Hid (∀ W, Calls Tryz.prog 61 #[.int .i64 v] W fun e w' => e = .returned (.int .i64 wd) ∧ w' = W) := Lib.hid (fun W => by rw [hwd]; exact width_c v W)
  have HOK : Hid (maskOk v l bs = (e1 && (decide (0 ≤ bs) && decide (bs ≤ wd)))) := Lib.hid (by rw [he1, hwd]; rfl)
  obtain ⟨ra, hra⟩ : ∃ ra, ra = maskA v l bs := ⟨_, rfl⟩
  obtain ⟨re, hre⟩ : ∃ re, re = maskE v l bs := ⟨_, rfl⟩
  rw [← hcs, ← hra, ← hre]
  have HRA := Lib.hid hra; have HRE := Lib.hid hre; have HCS := Lib.hid hcs
  have hwm : wd ≤ 128 := by rw [hwd]; split <;> omega
  clear hra hre hcs he1 hwd
  have R1 := Lib.hid r1; have R2 := Lib.hid r2
  rw [csA_z] at r1 r2
  have hbad : ∀ W : World, maskOk v l bs = false → Below w.heap.size w W → rowAt W (w.heap.size + 1) = some (csA 0 z16) →
      ra = csA 0 z16 ∧ re = 1 ∧ Below w.heap.size w (W.setRow (w.heap.size + 1) (csA 0 z16)) ∧ rowAt (W.setRow (w.heap.size + 1) (csA 0 z16)) (w.heap.size + 1) = some (csA 0 z16) := fun W h1 h2 h3 =>
    ⟨by rw [HRA.out, maskA, h1]; rfl, by rw [HRE.out, maskE, h1]; rfl, below_setRow h2 (by omega) _, rowAt_setRow h3 _ (csA_size rfl)⟩
  have HBAD := Lib.hid hbad; clear hbad
  have hz3 := csA_one 0 z16
  have hz1 : (csA 0 z16).size = 17 := rfl
  rw [csA_z] at hz3 hz1
  by_cases ok : maskOk v l bs = true
  · have h' := HOK.out; rw [ok] at h'
    simp only [Bool.true_eq, Bool.and_eq_true, decide_eq_true_eq] at h'
    obtain ⟨rfl, hb0, hb1⟩ := h'
    have hb2 : bs ≤ 128 := by omega
    have f1 : decide (bs < 0) = false := by simp; omega
    have f3 : decide (wd < bs) = false := by simp; omega
    have hra : ra = csA v (maskL bs 0 l) := by rw [HRA.out, maskA, if_pos ok]
    have hre : re = 0 := by rw [HRE.out, maskE, if_pos ok]
    subst hra hre
    clear HRA HRE HBAD ok HOK hz1 hz3
    go_enter Tryz.func46, Tryz.ntmps46
    go_wp2_with (first
      | (refine wpList_load24 rfl _ rfl _ rfl _ r1 ?_)
      | (go_at_call 31; refine (HV.out _).mono ?_; rintro e w2 ⟨rfl, hb⟩; have d1 := rowAt_below r1 hb (lt2 _ _ _); have d2 := rowAt_below r2 hb (lt2' _ _ _); have d3 : w2.cell? ⟨w.heap.size, 0, none⟩ = some (.int .i64 v) := (hb.cell (lt2 _ _ _)).trans (by simpa using c1))
      | (go_at_call 61; refine (HW.out _).mono ?_; rintro e w44 ⟨rfl, hw44⟩; have hw44 := hw44.symm; subst hw44))
    have hB : Below w.heap.size w w2 := (((Below.refl _ _).alloc (Nat.le_refl _) _).alloc (by simp) _).trans (hb.mono (Nat.le_of_lt (lt2 _ _ _)))
    rw [HCS.out] at d1
    rw [← csA_z] at d2
    have HX : Hid (Below w.heap.size w w2 ∧ rowAt w2 w.heap.size = some (csA v l) ∧ (rowAt w2 (w.heap.size + 1) = some (csA 0 z16))) := Lib.hid ⟨hB, d1, d2⟩
    clear hB d1 d2 hb r1 r2 d3 HV HW R1 R2 HCS c1 f1 f3
    go_loopw [23] (fun i wr => ∃ k : Nat, k ≤ 16 ∧ i = .int .i64 (k : Int) ∧ Below w.heap.size w wr ∧ rowAt wr w.heap.size = some (csA v (mixL bs l k)) ∧ rowAt wr (w.heap.size + 1) = some (csA 0 z16)) (fun i _ => 16 - (intOf i).toNat)
    case atStart => exact ⟨0, by omega, rfl, HX.out.1, by rw [mixL_zero]; exact HX.out.2.1, HX.out.2.2⟩
    case round =>
      obtain ⟨k, hk, rfl, hb, d1, d2⟩ := hrel
      by_cases hlt : k < 16
      · obtain ⟨b, hbk⟩ : ∃ b, (mixL bs l k)[k]? = some b := ⟨_, List.getElem?_eq_getElem (by rw [mixL_length _ hl]; omega)⟩
        have cx := rowAt_bytes d1 k b hbk
        have fx : wr.frozen? ⟨w.heap.size, 1 + k, none⟩ = false := rowAt_free d1 _
        have b1 : decide ((k : Int) < 16) = true := by simp; omega
        have b2 : 0 ≤ (k : Int) := by omega
        have b3 : (k : Int) < 16 := by omega
        have b4 : ((k : Int)).toNat = k := by omega
        have KEY : Hid (∀ q : Int, q = kept bs k → ∀ W, W = (wr.setCell ⟨w.heap.size, 1 + k, none⟩ (.int .u8 (bits .andNot .u8 b (255 / 2 ^ q.toNat)))).drew →
            Below w.heap.size w W ∧ rowAt W w.heap.size = some (csA v (mixL bs l (k + 1))) ∧ rowAt W (w.heap.size + 1) = some (csA 0 z16)) := Lib.hid (by
          rintro q rfl W rfl
          refine ⟨(hb.setCell (Nat.le_refl _) _).drew, ?_, ?_⟩
          · rw [rowAt_drew, ← mixL_succ bs hl k hlt b hbk]
            exact rowAt_set d1 k _
          · rw [rowAt_drew, rowAt_set_other (by omega)]
            exact d2)
        clear d1 d2 hb hbk HX
        obtain ⟨z, hz⟩ : ∃ z : Int, bs - 8 * (k : Int) = z := ⟨_, rfl⟩
        have hq0 : kept bs k = min (max z 0) 8 := by rw [← hz]; rfl
        rcases (by omega : z < 0 ∨ z = 0 ∨ (0 < z ∧ z < 8) ∨ z = 8 ∨ 8 < z) with h | h | h | h | h
        · have KK := KEY.out 0 (by rw [hq0]; omega)
          rw [show (255 : Int) / 2 ^ (0 : Int).toNat = 255 from by decide] at KK
          have KK := Lib.hid KK
          clear KEY hq0
          go_wp2_with fail
          go_region
          all_goals (go_wp2_with fail; go_roundw)
          all_goals first | exact ⟨k + 1, by omega, by go_num, KK.out _ rfl⟩ | (simp [intOf]; omega)
        · subst h
          have KK := KEY.out 0 (by rw [hq0]; omega)
          rw [show (255 : Int) / 2 ^ (0 : Int).toNat = 255 from by decide] at KK
          have KK := Lib.hid KK
          clear KEY hq0
          go_wp2_with fail
          go_region
          all_goals (go_wp2_with fail; go_roundw)
          all_goals first | exact ⟨k + 1, by omega, by go_num, KK.out _ rfl⟩ | (simp [intOf]; omega)
        · obtain ⟨h1, h2⟩ := h
          have KK := Lib.hid (KEY.out z (by rw [hq0]; omega))
          have h5 : (z.toNat : Int) = z := by omega
          clear KEY hq0
          go_wp2_with fail
          go_region
          all_goals (go_wp2_with fail; go_roundw)
          all_goals first | exact ⟨k + 1, by omega, by go_num, KK.out _ rfl⟩ | (simp [intOf]; omega)
        · subst h
          have KK := KEY.out 8 (by rw [hq0]; omega)
          rw [show (255 : Int) / 2 ^ (8 : Int).toNat = 0 from by decide] at KK
          have KK := Lib.hid KK
          clear KEY hq0
          go_wp2_with fail
          go_region
          all_goals (go_wp2_with fail; go_roundw)
          all_goals first | exact ⟨k + 1, by omega, by go_num, KK.out _ rfl⟩ | (simp [intOf]; omega)
        · have KK := KEY.out 8 (by rw [hq0]; omega)
          rw [show (255 : Int) / 2 ^ (8 : Int).toNat = 0 from by decide] at KK
          have KK := Lib.hid KK
          clear KEY hq0
          have h5 : 0 ≤ z := by omega
          go_wp2_with fail
          go_region
          all_goals (go_wp2_with fail; go_roundw)
          all_goals first | exact ⟨k + 1, by omega, by go_num, KK.out _ rfl⟩ | (simp [intOf]; omega)
      · obtain rfl : k = 16 := by omega
        have e16 : mixL bs l 16 = maskL bs 0 l := by simp [mixL, hl, maskL_length, List.take_of_length_le]
        rw [e16] at d1
        have hsz : (csA v (maskL bs 0 l)).size = 17 := csA_size (by rw [maskL_length, hl])
        have hon := csA_one v (maskL bs 0 l)
        obtain ⟨cz, hcz⟩ : ∃ c, c = csA v (maskL bs 0 l) := ⟨_, rfl⟩
        rw [← hcz] at d1 hsz hon
        have HCZ := Lib.hid hcz; clear hcz
        have HF : Hid (Below w.heap.size w (wr.setRow (w.heap.size + 1) cz) ∧ rowAt (wr.setRow (w.heap.size + 1) cz) (w.heap.size + 1) = some cz) := Lib.hid ⟨below_setRow hb (by omega) _, rowAt_setRow d2 _ hsz⟩
        clear HX hb
        go_wp2_with (first
          | (refine wpList_load24 rfl _ rfl _ rfl _ d1 ?_)
          | (refine wpList_store24o rfl _ _ rfl _ rfl _ _ d2 rfl hsz hon ?_))
        refine bodyPost_ret (v := .tuple #[.agg cz, .int .i64 0]) ?_ rfl ⟨by rw [HCZ.out], HF.out.1⟩
        exact result24t rfl _ _ _ _ _ rfl rfl HF.out.2
  · have ok : maskOk v l bs = false := by simpa using ok
    have h' := HOK.out; rw [ok] at h'
    have HN : Hid (false = (e1 && (decide (0 ≤ bs) && decide (bs ≤ wd)))) := Lib.hid h'
    clear h' HOK HRA HRE
    cases e1
    · go_enter Tryz.func46, Tryz.ntmps46
      go_wp2_with (first
        | (refine wpList_load24 rfl _ rfl _ rfl _ r1 ?_)
        | (refine wpList_store24o rfl _ _ rfl _ rfl _ _ (by assumption) rfl hz1 hz3 ?_)
        | (go_at_call 31; refine (HV.out _).mono ?_; rintro e w2 ⟨rfl, hb⟩; have d2 := rowAt_below r2 hb (lt2' _ _ _)))
      have hB : Below w.heap.size w w2 := (((Below.refl _ _).alloc (Nat.le_refl _) _).alloc (by simp) _).trans (hb.mono (Nat.le_of_lt (lt2 _ _ _)))
      obtain ⟨rfl, rfl, k1, k2⟩ := HBAD.out w2 ok hB d2
      refine bodyPost_ret (v := .tuple #[.agg (csA 0 z16), .int .i64 1]) ?_ rfl ⟨rfl, k1⟩
      exact result24t rfl _ _ _ _ _ rfl rfl k2
    · by_cases hb0 : bs < 0
      · have f1 : decide (bs < 0) = true := by simpa using hb0
        go_enter Tryz.func46, Tryz.ntmps46
        go_wp2_with (first
          | (refine wpList_load24 rfl _ rfl _ rfl _ r1 ?_)
          | (refine wpList_store24o rfl _ _ rfl _ rfl _ _ (by assumption) rfl hz1 hz3 ?_)
          | (go_at_call 31; refine (HV.out _).mono ?_; rintro e w2 ⟨rfl, hb⟩; have d2 := rowAt_below r2 hb (lt2' _ _ _)))
        have hB : Below w.heap.size w w2 := (((Below.refl _ _).alloc (Nat.le_refl _) _).alloc (by simp) _).trans (hb.mono (Nat.le_of_lt (lt2 _ _ _)))
        obtain ⟨rfl, rfl, k1, k2⟩ := HBAD.out w2 ok hB d2
        refine bodyPost_ret (v := .tuple #[.agg (csA 0 z16), .int .i64 1]) ?_ rfl ⟨rfl, k1⟩
        exact result24t rfl _ _ _ _ _ rfl rfl k2
      · have f1 : decide (bs < 0) = false := by simpa using hb0
        have f2 : wd < bs := by
          have := HN.out
          simp only [Bool.true_and, Bool.false_eq, Bool.and_eq_false_iff, decide_eq_false_iff_not] at this
          omega
        have f3 : decide (wd < bs) = true := by simpa using f2
        go_enter Tryz.func46, Tryz.ntmps46
        go_wp2_with (first
          | (refine wpList_load24 rfl _ rfl _ rfl _ r1 ?_)
          | (refine wpList_store24o rfl _ _ rfl _ rfl _ _ (by assumption) rfl hz1 hz3 ?_)
          | (go_at_call 31; refine (HV.out _).mono ?_; rintro e w2 ⟨rfl, hb⟩; have d2 := rowAt_below r2 hb (lt2' _ _ _); have d3 : w2.cell? ⟨w.heap.size, 0, none⟩ = some (.int .i64 v) := (hb.cell (lt2 _ _ _)).trans (by simpa using c1))
          | (go_at_call 61; refine (HW.out _).mono ?_; rintro e w44 ⟨rfl, hw44⟩; have hw44 := hw44.symm; subst hw44))
        have hB : Below w.heap.size w w2 := (((Below.refl _ _).alloc (Nat.le_refl _) _).alloc (by simp) _).trans (hb.mono (Nat.le_of_lt (lt2 _ _ _)))
        obtain ⟨rfl, rfl, k1, k2⟩ := HBAD.out w2 ok hB d2
        refine bodyPost_ret (v := .tuple #[.agg (csA 0 z16), .int .i64 1]) ?_ rfl ⟨rfl, k1⟩
        exact result24t rfl _ _ _ _ _ rfl rfl k2
end Go.Proofs.YtoifolmcdkfniabGreatDoor
