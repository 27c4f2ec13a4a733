/-
  Within.
-/
import Derived.Test.YtoifolmcdkfniabGreatDoorMask
import Derived.Test.YtoifolmcdkfniabGreatDoorEq
namespace Go.Proofs.YtoifolmcdkfniabGreatDoor
open Go.ChangeShapes Go.WideShapes Go.ChangeAt Go.RowKit
set_option linter.unusedVariables false
set_option maxHeartbeats 4000000
set_option maxRecDepth 100000

def withinP (v : Int) (l : List Int) (v' : Int) (l' : List Int) (bs : Int) : Bool := maskOk v l bs && (maskOk v' l' bs && (decide (v = v') && eqL (maskL bs 0 l) (maskL bs 0 l')))
theorem maskA_size (v : Int) {l : List Int} (hl : l.length = 16) (bs : Int) : (maskA v l bs).size = 17 := by
  unfold maskA; split
  · exact csA_size (by rw [maskL_length, hl])
  · rfl
theorem maskA_one (v : Int) (l : List Int) (bs : Int) : (maskA v l bs).all (·.oneCell') = true := by
  unfold maskA; split <;> exact csA_one _ _
theorem within_c (v v' : Int) (l l' : List Int) (hl : l.length = 16) (hl' : l'.length = 16) (bs : Int) (w : World) :
    Calls Tryz.prog 43 #[.agg (csA v l), .agg (csA v' l'), .int .i64 bs] w fun e w' => e = .returned (.bool (withinP v l v' l' bs)) ∧ Below w.heap.size w w' := by
  obtain ⟨cs, hcs⟩ : ∃ c, c = csA v l := ⟨_, rfl⟩
  obtain ⟨ct, hct⟩ : ∃ c, c = csA v' l' := ⟨_, rfl⟩
  obtain ⟨m1, hm1⟩ : ∃ c, c = maskA v l bs := ⟨_, rfl⟩
  obtain ⟨m2, hm2⟩ : ∃ c, c = maskA v' l' bs := ⟨_, rfl⟩
  obtain ⟨res, hres⟩ : ∃ b, b = withinP v l v' l' bs := ⟨_, rfl⟩
  have r1 : rowAt ((w.alloc (.cells cs 37)).alloc (.cells ct 37)) w.heap.size = some cs := rowAt_old (rowAt_new w _ 37 (by rw [hcs]; exact csA_size hl)) _
  have r2 : rowAt ((w.alloc (.cells cs 37)).alloc (.cells ct 37)) (w.heap.size + 1) = some ct := by
    have := rowAt_new (w.alloc (.cells cs 37)) ct 37 (by rw [hct]; exact csA_size hl')
    simpa using this
  have s1 : m1.size = 17 := by rw [hm1]; exact maskA_size v hl bs
  have s2 : m2.size = 17 := by rw [hm2]; exact maskA_size v' hl' bs
  have o1 : m1.all (·.oneCell') = true := by rw [hm1]; exact maskA_one v l bs
  have o2 : m2.all (·.oneCell') = true := by rw [hm2]; exact maskA_one v' l' bs
  have HM1 : Hid (∀ W, Calls Tryz.prog 46 #[.agg cs, .int .i64 bs] W fun e w' => e = .returned (.tuple #[.agg m1, .int .i64 (maskE v l bs)]) ∧ Below W.heap.size W w') := Lib.hid (fun W => by rw [hcs, hm1]; exact mask_c v l hl bs W)
  have HM2 : Hid (∀ W, Calls Tryz.prog 46 #[.agg ct, .int .i64 bs] W fun e w' => e = .returned (.tuple #[.agg m2, .int .i64 (maskE v' l' bs)]) ∧ Below W.heap.size W w') := Lib.hid (fun W => by rw [hct, hm2]; exact mask_c v' l' hl' bs W)
  have hz : (csA 0 z16).size = 17 := rfl
  rw [csA_z] at hz
  have hg := guard24
  rw [← hcs, ← hct, ← hres]
  have HB : Hid (Below w.heap.size w ((w.alloc (.cells cs 37)).alloc (.cells ct 37))) := Lib.hid (((Below.refl _ _).alloc (Nat.le_refl _) _).alloc (by simp) _)
  by_cases k1 : maskOk v l bs = true
  · have e1 : maskE v l bs = 0 := by simp [maskE, k1]
    rw [e1] at HM1
    obtain ⟨e2, he2⟩ : ∃ e, e = maskE v' l' bs := ⟨_, rfl⟩
    rw [← he2] at HM2
    obtain ⟨q, hq⟩ : ∃ q, q = (decide (v = v') && eqL (maskL bs 0 l) (maskL bs 0 l')) := ⟨_, rfl⟩
    by_cases k2 : maskOk v' l' bs = true
    · have e20 : e2 = 0 := by rw [he2]; simp [maskE, k2]
      subst e20
      have hqe : ∀ w, (Op.equalIn 10000 37 (.agg m1) (.agg m2)).run Tryz.prog w = .ok q w := fun w => by
        rw [hm1, hm2, maskA, maskA, if_pos k1, if_pos k2, hq]
        exact eq24 v v' _ _ (by rw [maskL_length, hl]) (by rw [maskL_length, hl']) w
      have hrq : res = q := by rw [hres, withinP, k1, k2, hq]; rfl
      subst hrq
      clear hm1 hm2 hcs hct hres hq k1 k2 e1 he2
      go_enter Tryz.func43, Tryz.ntmps43
      go_wp2_with (first
        | (refine wpList_load24 rfl _ rfl _ rfl _ (by assumption) ?_)
        | (go_at_call 46; refine (HM1.out _).mono ?_; rintro e w2 ⟨rfl, hb⟩; have d2 := rowAt_below r2 hb (lt2' _ _ _); have B2 := Lib.hid (HB.out.trans (hb.mono (Nat.le_of_lt (lt2 _ _ _)))); have d3 := rowAt_old d2 (.cells m1 37); have d4 := rowAt_new w2 m1 37 s1; have S2 := Lib.hid (show w.heap.size ≤ w2.heap.size from B2.out.size); clear hb d2 HM1 r1 r2; refine Hid.out ?_))
      refine Lib.hid ?_
      go_wp2_with (first
        | (refine wpList_load24 rfl _ rfl _ rfl _ (by assumption) ?_)
        | (refine wpList_store24 rfl _ _ rfl rfl _ rfl s1 hz o1 ?_)
        | (refine wpList_store24 rfl _ _ rfl rfl _ rfl s2 hz o2 ?_)
        | (go_at_call 46; refine (HM2.out _).mono ?_; rintro e w3 ⟨rfl, hb⟩; have f4 := rowAt_old (rowAt_below d4 hb (by simp)) (.cells m2 37); have f5 := rowAt_new w3 m2 37 s2; have B3 := Lib.hid ((B2.out.alloc S2.out _).trans (hb.mono (by have := S2.out; simp; omega))); clear hb d3 d4))
      go_ret
      exact ⟨rfl, B3.out.alloc B3.out.size _⟩
    · have e20 : e2 = 1 := by rw [he2]; simp [maskE, k2]
      subst e20
      have hrq : res = false := by rw [hres, withinP, k1]; simp [k2]
      subst hrq
      clear hm1 hm2 hcs hct hres hq k1 k2 e1 he2
      go_enter Tryz.func43, Tryz.ntmps43
      go_wp2_with (first
        | (refine wpList_load24 rfl _ rfl _ rfl _ (by assumption) ?_)
        | (go_at_call 46; refine (HM1.out _).mono ?_; rintro e w2 ⟨rfl, hb⟩; have d2 := rowAt_below r2 hb (lt2' _ _ _); have B2 := Lib.hid (HB.out.trans (hb.mono (Nat.le_of_lt (lt2 _ _ _)))); have d3 := rowAt_old d2 (.cells m1 37); have d4 := rowAt_new w2 m1 37 s1; have S2 := Lib.hid (show w.heap.size ≤ w2.heap.size from B2.out.size); clear hb d2 HM1 r1 r2; refine Hid.out ?_))
      refine Lib.hid ?_
      go_wp2_with (first
        | (refine wpList_load24 rfl _ rfl _ rfl _ (by assumption) ?_)
        | (refine wpList_store24 rfl _ _ rfl rfl _ rfl s1 hz o1 ?_)
        | (refine wpList_store24 rfl _ _ rfl rfl _ rfl s2 hz o2 ?_)
        | (go_at_call 46; refine (HM2.out _).mono ?_; rintro e w3 ⟨rfl, hb⟩; have f4 := rowAt_old (rowAt_below d4 hb (by simp)) (.cells m2 37); have f5 := rowAt_new w3 m2 37 s2; have B3 := Lib.hid ((B2.out.alloc S2.out _).trans (hb.mono (by have := S2.out; simp; omega))); clear hb d3 d4))
      go_ret
      exact ⟨rfl, B3.out.alloc B3.out.size _⟩
  · have e1 : maskE v l bs = 1 := by simp [maskE, k1]
    rw [e1] at HM1
    have hrq : res = false := by rw [hres, withinP]; simp [k1]
    subst hrq
    clear hm1 hm2 hcs hct hres k1 e1 HM2
    go_enter Tryz.func43, Tryz.ntmps43
    go_wp2_with (first
      | (refine wpList_load24 rfl _ rfl _ rfl _ (by assumption) ?_)
      | (refine wpList_store24 rfl _ _ rfl rfl _ rfl s1 hz o1 ?_)
      | (go_at_call 46; refine (HM1.out _).mono ?_; rintro e w2 ⟨rfl, hb⟩; have B2 := Lib.hid (HB.out.trans (hb.mono (Nat.le_of_lt (lt2 _ _ _)))); clear hb))
    go_ret
    exact ⟨rfl, B2.out.alloc B2.out.size _⟩
end Go.Proofs.YtoifolmcdkfniabGreatDoor
