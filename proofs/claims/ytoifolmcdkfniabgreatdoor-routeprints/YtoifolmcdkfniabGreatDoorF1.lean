/-
  mayBe, hasTwins, Clone.
-/
import Derived.Test.YtoifolmcdkfniabGreatDoorStp
namespace Go.Proofs.YtoifolmcdkfniabGreatDoor
open Go.ChangeShapes Go.WideShapes Go.ChangeAt Go.RowKit
set_option linter.unusedVariables false
set_option linter.unusedSimpArgs false
set_option maxRecDepth 100000

theorem maskA_ok {v : Int} {l : List Int} {b : Int} (h : maskOk v l b = true) : maskA v l b = csA v (maskL b 0 l) := by unfold maskA; rw [if_pos h]
theorem maskE_ok {v : Int} {l : List Int} {b : Int} (h : maskOk v l b = true) : maskE v l b = 0 := by unfold maskE; rw [if_pos h]
theorem maskE_no {v : Int} {l : List Int} {b : Int} (h : maskOk v l b = false) : maskE v l b = 1 := by unfold maskE; rw [if_neg (by simp [h])]
theorem maskA_no {v : Int} {l : List Int} {b : Int} (h : maskOk v l b = false) : maskA v l b = csA 0 z16 := by unfold maskA; rw [if_neg (by simp [h])]
theorem infoA : (Tryz.prog.info? 37).map (·.size) = some 17 := info24
theorem zeroA : (Tryz.prog.info? 37).bind (·.zero) = some (.agg (csA 0 z16)) := by kernel_rfl
theorem wpList_allocA {ops : Array Oper} {rest : List Oper} {o : Oper} {a : Act} {w : World} {Q : Exit → Act → World → Prop} (hg : o.guard = none) (ho : o.op = .alloc 37)
    (h : ∀ g w1, w.heap.size ≤ g → BoxA w1 g 0 z16 → Away [] w w1 → wpList Tryz.prog ops Q rest (a.put o.dst (.pointer (some ⟨g, 0, none⟩))) w1) : wpList Tryz.prog ops Q (o :: rest) a w := by
  have hz : (zeroValue 37).run Tryz.prog w = .ok (.agg (csA 0 z16)) w := by
    have := zeroA
    cases hi : Tryz.prog.info? 37 with
    | none => rw [hi] at this; simp at this
    | some i => rw [hi] at this; simp at this; simp [zeroValue, typeInfo, hi, this]
  refine wpList_plain hg fun K hK => ?_
  unfold Oper.wp execOp
  simp only [ho, Sem.run_bind, Instr.alloc, hz, newVar, newRow, run_newObj_alloc, Sem.run_pure, Result.andThen_ok]
  exact hK _ _ (h w.heap.size _ (Nat.le_refl _) (block_new _ _) ((Away.refl [] w).alloc _))
theorem wpList_storeA {ops : Array Oper} {rest : List Oper} {o : Oper} {a : Act} {w : World} {Q : Exit → Act → World → Prop} (hw : Region.wanted o (yielded ops a.tmps) = true) (x y : Operand) (ho : o.op = .store 37 x y)
    (g : Nat) (hx : a.eval x = .pointer (some ⟨g, 0, none⟩)) (v : Int) (l : List Int) (hl : l.length = 16) (v' : Int) (l' : List Int) (hl' : l'.length = 16) (hy : a.eval y = .agg (csA v l)) (hb : BoxA w g v' l')
    (h : ∀ w1, BoxA w1 g v l → Away [g] w w1 → wpList Tryz.prog ops Q rest (a.put o.dst undef) w1) : wpList Tryz.prog ops Q (o :: rest) a w :=
  BigFrame.wpList_want hw fun K hK => wp_store_row 37 x y ho g (csA v l) hx hy 37 (csA v' l') hb (by rw [csA_size hl]; exact infoA) (by rw [csA_size hl, csA_size hl']) (csA_one v l) (hK _ _ (h _ (by
    unfold BoxA at hb ⊢; simp [World.setRow, Array.getElem?_modify, hb]) ((Away.refl [g] w).setRow (.inl (by simp)) _)))
set_option maxHeartbeats 4000000 in
theorem mayBe_c (x : Rt) (hx : Okr x) (w : World) : Calls Tryz.prog 23 #[.agg (csD x)] w fun E w' => E = .returned (.bool (mayR x)) ∧ Away [] w w' := by
  have HX := Lib.hid hx
  have HM := Lib.hid (fun w' => mask_c x.v x.l hx.1 x.b w')
  clear hx
  obtain ⟨r, hr⟩ : ∃ r, r = mayR x := ⟨_, rfl⟩
  rw [← hr]
  have HR := Lib.hid hr
  clear hr
  obtain ⟨mv, ml, hml, hma⟩ : ∃ mv ml, ml.length = 16 ∧ maskA x.v x.l x.b = csA mv ml := by
    cases hk : maskOk x.v x.l x.b with
    | true => exact ⟨_, _, by rw [maskL_length]; exact HX.out.1, maskA_ok hk⟩
    | false => exact ⟨_, _, rfl, maskA_no hk⟩
  have HML := Lib.hid hml
  obtain ⟨e, he⟩ : ∃ e, e = maskE x.v x.l x.b := ⟨_, rfl⟩
  rw [hma, ← he] at HM
  obtain ⟨q, hq⟩ : ∃ q, q = (decide (mv = x.v) && eqL ml x.l) := ⟨_, rfl⟩
  have HQ : Hid (∀ w, (Op.equalIn 10000 37 (.agg (csA mv ml)) (.agg (csA x.v x.l))).run Tryz.prog w = .ok q w) := fun w => by rw [hq]; exact eqA mv x.v ml x.l HML.out HX.out.1 w
  have HRR : Hid (r = (decide (e = 0) && (q && (decide (0 ≤ x.k) && decide (x.k < 16))))) := by
    show _ = _
    rw [HR.out, mayR, he]
    cases hk : maskOk x.v x.l x.b with
    | true =>
      rw [maskE_ok hk, hq]
      rw [maskA_ok hk] at hma
      have h0 := congrArg (fun a => a.toList) hma
      simp [csA, cellsA] at h0
      obtain ⟨rfl, h1⟩ := h0
      have h2 : maskL x.b 0 x.l = ml := by
        have := (List.map_inj_right (f := Value.int .u8) (fun a b h => by simpa using h)).1 h1
        exact this
      rw [h2]; simp
    | false => rw [maskE_no hk]; simp
  clear hml hma he hq HR
  go_enter Tryz.func23, Tryz.ntmps23
  go_wp2_with (refine wpList_boxE rfl _ rfl x rfl ?_; refine Hid.out ?_)
  refine Lib.hid ?_
  intro g1 w1 hg1 hb1 haw1
  have HB1 := Lib.hid hb1
  have HA1 := Lib.hid haw1
  have HRA := Lib.hid (range_a hb1.range HX.out)
  have c17 := range_b hb1.range HX.out
  simp only [Nat.zero_add] at c17
  clear hb1 haw1 hg1
  go_wp2_with (first
    | (refine wpList_load32m rfl _ rfl g1 0 rfl x.v x.l HX.out.1 HRA.out ?_)
    | (go_at_call 46; refine (HM.out _).mono ?_; refine Hid.out ?_))
  refine Lib.hid ?_
  rintro E w2 ⟨rfl, hbl⟩
  have haw2 := Away.of_below hbl
  clear c17 HRA hbl
  have HB2 := Lib.hid (HB1.out.on haw2 (by simp))
  replace HA1 := Lib.hid (HA1.out.trans haw2)
  have HS := HA1.out.size
  have hlt := lt_of_block HB2.out
  clear haw2 HB1
  go_wp2_with (refine wpList_allocA rfl rfl ?_; refine Hid.out ?_)
  refine Lib.hid ?_
  intro g3 w3 hg3 hb3 haw3
  replace HA1 := Lib.hid (HA1.out.trans haw3)
  replace HB2 := Lib.hid (HB2.out.on haw3 (by simp))
  have HB3 := Lib.hid hb3
  clear hb3 haw3
  go_wp2_with (refine wpList_storeA rfl _ _ rfl g3 rfl mv ml HML.out 0 z16 rfl rfl HB3.out ?_; refine Hid.out ?_)
  refine Lib.hid ?_
  intro w4 hb4 haw4
  have HB4 := Lib.hid hb4
  have HB5 := Lib.hid (HB2.out.on haw4 (by simp; omega))
  have HA4 : Hid (Away [] w w4) := HA1.out.next haw4 (fun z hz => .inr (by simp at hz; subst hz; omega))
  clear hb4 haw4 HA1 HB2 HB3 hlt HS hg3
  have c18 := range_k HB5.out.range HX.out
  simp only [Nat.zero_add] at c18
  have HRA := Lib.hid (range_a HB5.out.range HX.out)
  have hgd := guard24
  have hq := HQ.out
  by_cases he : e = 0
  · subst he
    cases q
    · go_wp2_with (first
        | (refine wpList_load32 rfl _ rfl g3 rfl mv ml HML.out HB4.out ?_)
        | (refine wpList_load32m rfl _ rfl g1 0 rfl x.v x.l HX.out.1 HRA.out ?_))
      go_ret
      exact ⟨ret_bool (by rw [HRR.out]; simp), HA4.out⟩
    · by_cases h0 : 0 ≤ x.k
      · by_cases h16 : x.k < 16
        · go_wp2_with (first
            | (refine wpList_load32 rfl _ rfl g3 rfl mv ml HML.out HB4.out ?_)
            | (refine wpList_load32m rfl _ rfl g1 0 rfl x.v x.l HX.out.1 HRA.out ?_))
          go_ret
          exact ⟨ret_bool (by rw [HRR.out]; simp [h0, h16]), HA4.out⟩
        · go_wp2_with (first
            | (refine wpList_load32 rfl _ rfl g3 rfl mv ml HML.out HB4.out ?_)
            | (refine wpList_load32m rfl _ rfl g1 0 rfl x.v x.l HX.out.1 HRA.out ?_))
          go_ret
          exact ⟨ret_bool (by rw [HRR.out]; simp [h0, h16]), HA4.out⟩
      · go_wp2_with (first
          | (refine wpList_load32 rfl _ rfl g3 rfl mv ml HML.out HB4.out ?_)
          | (refine wpList_load32m rfl _ rfl g1 0 rfl x.v x.l HX.out.1 HRA.out ?_))
        go_ret
        exact ⟨ret_bool (by rw [HRR.out]; simp [h0]; try omega), HA4.out⟩
  · have heb : (e == 0) = false := by simpa using he
    go_wp2_with fail
    go_ret
    exact ⟨ret_bool (by rw [HRR.out]; simp [he]), HA4.out⟩
end Go.Proofs.YtoifolmcdkfniabGreatDoor
