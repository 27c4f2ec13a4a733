/-
  For AddrAsks: the document's Mask.
-/
import Derived.Test.YtoifolmcdkfniabGreatDoorRows4
import Derived.Test.YtoifolmcdkfniabGreatDoorAsU
import Derived.Test.YtoifolmcdkfniabGreatDoorRefZ
namespace Go.Proofs.YtoifolmcdkfniabGreatDoor
open AU
open Go.ChangeShapes Go.WideShapes Go.ChangeAt Go.RowKit
set_option linter.unusedVariables false
set_option maxHeartbeats 4000000
set_option maxRecDepth 100000

theorem load5 {w : World} {ad : Addr} {z : Int} (h : w.cell? ad = some (.int .u8 z)) : (Instr.loadAt 5 (.pointer (some ad))).run Tryz.prog w = .ok (.int .u8 z) w := by
  simp [go_sem, Instr.loadAt, Instr.sureAddr, h]
theorem index22 (g i o : Nat) (z : Int) (hz : z = (i : Int)) (hi : i < 16) (ho : o = 1 + i) (W : World) : (Instr.indexAt 35 (.pointer (some ⟨g, 1, none⟩)) (.int .i64 z)).run Tryz.prog W = .ok (.pointer (some ⟨g, o, none⟩)) W := by
  subst hz ho
  have ht : Tryz.prog.underlying 35 = some (.array (Tryz.prog.arrayLen 35) (Tryz.prog.elem 35)) := by kernel_rfl
  have hal : Tryz.prog.arrayLen 35 = 16 := by kernel_rfl
  have hel : Tryz.prog.elem 35 = 5 := by kernel_rfl
  have hsz : (sizeOf 5).run Tryz.prog W = .ok 1 W := by kernel_rfl
  rw [run_indexAt_array W 35 ⟨g, 1, none⟩ .i64 (i : Int) ht, hal, hel, if_pos ⟨by omega, by omega⟩, hsz]
  simp only [Result.andThen, add_plain, Int.toNat_natCast, Nat.mul_one]
theorem yields_ld {ops : Array Oper} {S : World → Prop} {op : Oper} {a : Act} {t : TypeId} {v : Value} {ad : Addr} (hw : Region.wanted op (yielded ops a.tmps) = true) (x : Operand) (ho : op.op = .load t x) (hx : a.eval x = .pointer (some ad))
    (hS : ∀ w, S w → (Instr.loadAt t (.pointer (some ad))).run Tryz.prog w = .ok v w) : YieldsIf Tryz.prog ops S op v a :=
  .inl ⟨hw, fun w hw' => by
    unfold execOp
    simp only [ho, hx, Sem.run_bind, hS w hw', Result.andThen_ok, Sem.run_pure]⟩
theorem yields_ix22 {ops : Array Oper} {S : World → Prop} {op : Oper} {a : Act} (hw : Region.wanted op (yielded ops a.tmps) = true) (x ix : Operand) (ho : op.op = .indexAddr 35 x ix) (g i : Nat) (z : Int) (hx : a.eval x = .pointer (some ⟨g, 1, none⟩)) (hix : a.eval ix = .int .i64 z) (hz : z = (i : Int)) (hi : i < 16) :
    YieldsIf Tryz.prog ops S op (.pointer (some ⟨g, 1 + i, none⟩)) a :=
  .inl ⟨hw, fun w _ => by
    unfold execOp
    simp only [ho, hx, hix, Sem.run_bind, index22 g i (1 + i) z hz hi rfl w, Result.andThen_ok, Sem.run_pure]⟩
theorem step_store5 {ops : Array Oper} {o : Oper} {a : Act} {w : World} {K : Act → World → Prop} {Q : Exit → Act → World → Prop} {E : Prop} (hg : o.guard = none) (s r : Nat)
    (ho : o.op = .store 5 (.tmp s) (.tmp r)) (g i : Nat) (hx : a.tmps[s]?.getD undef = .pointer (some ⟨g, i, none⟩)) (n : Int) (hy : a.tmps[r]?.getD undef = .int .u8 n) (u : Value) (hc : w.cell? ⟨g, i, none⟩ = some u) (hf : w.frozen? ⟨g, i, none⟩ = false)
    (hK : K (a.put o.dst undef) (w.setCell ⟨g, i, none⟩ (.int .u8 n))) :
    if Region.wanted o (yielded ops a.tmps) = true then Oper.wp Tryz.prog o a w K Q else E := by
  have hw : Region.wanted o (yielded ops a.tmps) = true := by simp [Region.wanted, hg]
  rw [if_pos hw]
  obtain ⟨d, op, ty, ps, af, gd⟩ := o
  simp only at ho
  subst ho
  go_simp
  exact hK
theorem ld24 {w : World} {g : Nat} {cs : Array Value} (h : rowAt w g = some cs) : (Instr.loadAt 37 (.pointer (some ⟨g, 0, none⟩))).run Tryz.prog w = .ok (.agg cs) w := by rw [load24_eq, h]; rfl
/-- The addresses that lie in a world. -/
def RB (w0 : World) : List (Nat × Array Value) → World → Prop
  | [], w => Below w0.heap.size w0 w
  | (g, c) :: L, w => rowAt w g = some c ∧ RB w0 L w
theorem RB.base {w0 : World} : ∀ {L : List (Nat × Array Value)} {w : World}, RB w0 L w → Below w0.heap.size w0 w
  | [], _, h => h
  | (_, _) :: L, _, h => RB.base (L := L) h.2
theorem RB.on {w0 : World} : ∀ {L : List (Nat × Array Value)} {w w' : World}, RB w0 L w → Below w.heap.size w w' → RB w0 L w'
  | [], _, _, h, hb => Below.trans h (hb.mono (Below.size h))
  | (_, _) :: L, _, _, h, hb => ⟨rowAt_below h.1 hb (rowAt_lt h.1), RB.on (L := L) h.2 hb⟩
theorem RB.drew {w0 : World} : ∀ {L : List (Nat × Array Value)} {w : World}, RB w0 L w → RB w0 L w.drew
  | [], _, h => Below.drew h
  | (_, _) :: L, _, h => ⟨h.1, RB.drew (L := L) h.2⟩
theorem RB.add {w0 : World} {L : List (Nat × Array Value)} {w : World} (h : RB w0 L w) (c : Array Value) (hc : c.size = 17) : RB w0 ((w.heap.size, c) :: L) (w.alloc (.cells c 37)) :=
  ⟨rowAt_new w c 37 hc, h.on ((Below.refl _ _).alloc (Nat.le_refl _) _)⟩
theorem csA_v (v : Int) : csA v z16 = #[.int .i64 v, .int .u8 0, .int .u8 0, .int .u8 0, .int .u8 0, .int .u8 0, .int .u8 0, .int .u8 0, .int .u8 0, .int .u8 0, .int .u8 0, .int .u8 0, .int .u8 0, .int .u8 0, .int .u8 0, .int .u8 0, .int .u8 0] := rfl
theorem shl_bit (bt : Int) (p : Nat) (h : 0 ≤ bt ∧ bt ≤ 1) (hp : p < 8) (W : World) : (Op.shift .shl .u8 bt .i64 (IntKind.i64.wrap (7 - (p : Int)))).run Tryz.prog W = .ok (.int .u8 (bt * 2 ^ (7 - p))) W := by
  have h1 : bt = 0 ∨ bt = 1 := by omega
  have h2 : p = 0 ∨ p = 1 ∨ p = 2 ∨ p = 3 ∨ p = 4 ∨ p = 5 ∨ p = 6 ∨ p = 7 := by omega
  clear h hp
  rcases h1 with rfl | rfl <;> rcases h2 with rfl | rfl | rfl | rfl | rfl | rfl | rfl | rfl <;> rfl
theorem bitP_01 (l : List Int) (k : Nat) : 0 ≤ bitP l k ∧ bitP l k ≤ 1 := by unfold bitP; omega
theorem rmask_c (v : Int) (l : List Int) (hl : l.length = 16) (hby : ∀ y ∈ l, 0 ≤ y ∧ y ≤ 255) (bs : Int) (w : World) :
    Calls Tryz.prog 56 #[.agg (csA v l), .int .i64 bs] w fun e w' => e = .returned (.tuple #[.agg (maskA v l bs), .int .i64 (maskE v l bs)]) ∧ Below w.heap.size w w' := by
  obtain ⟨cs, hcs⟩ : ∃ c, c = csA v l := ⟨_, rfl⟩
  have scs : cs.size = 17 := by rw [hcs]; exact csA_size hl
  have hs0 : RB w [(w.heap.size + 1, csA 0 z16), (w.heap.size, cs)] ((w.alloc (.cells cs 37)).alloc (.cells (csA 0 z16) 37)) := by
    have h0 : RB w [] w := Below.refl _ _
    have h1 := (h0.add cs scs).add (csA 0 z16) (csA_size rfl)
    simpa using h1
  have c1 : cs[0]? = some (.int .i64 v) := by rw [hcs]; exact csA_zero v l
  obtain ⟨e1, he1⟩ : ∃ e1, e1 = validP v l := ⟨_, rfl⟩
  obtain ⟨wd, hwd⟩ : ∃ wd : Int, wd = if v = 4 then 32 else 128 := ⟨_, rfl⟩
  have HV : Hid (∀ W, Calls Tryz.prog 39 #[.agg cs] W fun e w' => e = .returned (.bool e1) ∧ Below W.heap.size W w') := Lib.hid (fun W => by rw [hcs, he1]; exact rvalid_c v l hl W)
  have HW : Hid (∀ W, Calls Tryz.prog 55 #[.agg cs] W fun e w' => e = .returned (.int .i64 wd) ∧ Below W.heap.size W w') := Lib.hid (fun W => by rw [hcs, hwd]; exact rbits_c v l hl W)
  have HB0 : Hid (∀ k : Nat, k < 128 → ∀ W, Calls Tryz.prog 79 #[.agg cs, .int .i64 (k : Int)] W fun e w' => e = .returned (.int .u8 (bitP l k)) ∧ Below W.heap.size W w') := Lib.hid (fun k hk W => by rw [hcs]; exact rbit_c v l hl hby k hk W)
  have HOK : Hid (maskOk v l bs = (e1 && (decide (0 ≤ bs) && decide (bs ≤ wd)))) := Lib.hid (by rw [he1, hwd]; rfl)
  obtain ⟨ra, hra⟩ : ∃ ra, ra = maskA v l bs := ⟨_, rfl⟩
  obtain ⟨re, hre⟩ : ∃ re, re = maskE v l bs := ⟨_, rfl⟩
  rw [← hcs, ← hra, ← hre]
  have HRA := Lib.hid hra; have HRE := Lib.hid hre; have HCS := Lib.hid hcs; have HBY := Lib.hid hby
  have hwm : wd ≤ 128 := by rw [hwd]; split <;> omega
  clear hra hre hcs he1 hwd hby
  have r1 := hs0.2.1
  rw [csA_z] at r1
  have HS0 := Lib.hid hs0; clear hs0
  have hbad : ∀ W : World, maskOk v l bs = false → RB w [(w.heap.size + 1, csA 0 z16), (w.heap.size, cs)] W →
      ra = csA 0 z16 ∧ re = 1 ∧ Below w.heap.size w (W.setRow (w.heap.size + 1) (csA 0 z16)) ∧ rowAt (W.setRow (w.heap.size + 1) (csA 0 z16)) (w.heap.size + 1) = some (csA 0 z16) := fun W h1 h2 =>
    ⟨by rw [HRA.out, maskA, h1]; rfl, by rw [HRE.out, maskE, h1]; rfl, below_setRow h2.base (by omega) _, rowAt_setRow h2.1 _ (csA_size rfl)⟩
  have HBAD := Lib.hid hbad; clear hbad
  have hz3 := csA_one 0 z16
  have hz1 : (csA 0 z16).size = 17 := rfl
  rw [csA_z] at hz3 hz1
  by_cases ok : maskOk v l bs = true
  · have h' := HOK.out; rw [ok] at h'
    simp only [Bool.true_eq, Bool.and_eq_true, decide_eq_true_eq] at h'
    obtain ⟨rfl, hb0, hb1⟩ := h'
    have hb2 : bs ≤ 128 := by omega
    have f1 : decide (bs < 0) = false := by simp; omega
    have f3 : decide (wd < bs) = false := by simp; omega
    have hra : ra = csA v (maskL bs 0 l) := by rw [HRA.out, maskA, if_pos ok]
    have hre : re = 0 := by rw [HRE.out, maskE, if_pos ok]
    subst hra hre
    clear HRA HRE HBAD ok HOK
    have sv : (#[.int .i64 v, .int .u8 0, .int .u8 0, .int .u8 0, .int .u8 0, .int .u8 0, .int .u8 0, .int .u8 0, .int .u8 0, .int .u8 0, .int .u8 0, .int .u8 0, .int .u8 0, .int .u8 0, .int .u8 0, .int .u8 0, .int .u8 0] : Array Value).size = 17 := rfl
    have ov : (#[.int .i64 v, .int .u8 0, .int .u8 0, .int .u8 0, .int .u8 0, .int .u8 0, .int .u8 0, .int .u8 0, .int .u8 0, .int .u8 0, .int .u8 0, .int .u8 0, .int .u8 0, .int .u8 0, .int .u8 0, .int .u8 0, .int .u8 0] : Array Value).all (·.oneCell') = true := by rw [← csA_v]; exact csA_one v z16
    go_enter Tryz.func56, Tryz.ntmps56
    go_wp2_with (first
      | (refine wpList_load24 rfl _ rfl _ rfl _ (by assumption) ?_)
      | (go_at_call 39; refine (HV.out _).mono ?_; rintro e w2 ⟨rfl, hb⟩; have HS1 := Lib.hid (HS0.out.on hb); have r2 := HS1.out.2.1; clear hb r1 HS0)
      | (go_at_call 55; refine (HW.out _).mono ?_; rintro e w3 ⟨rfl, hb⟩; have HS2 := Lib.hid (HS1.out.on hb); have r3 : w3.cell? ⟨w.heap.size, 0, none⟩ = some (.int .i64 v) := rowAt_cell HS2.out.2.1 0 _ c1; clear hb r2 HS1)
      | (refine wpList_store24 rfl _ _ rfl rfl _ rfl sv hz1 ov ?_; refine Hid.out ?_))
    refine Lib.hid ?_
    rw [← csA_v]
    have HX := Lib.hid (HS2.out.add (csA v z16) (csA_size rfl))
    generalize w3.alloc (.cells (csA v z16) 37) = V at *
    obtain ⟨g7, hg7⟩ : ∃ A, w3.heap.size = A := ⟨_, rfl⟩
    have hgl : w.heap.size + 1 < w3.heap.size := rowAt_lt HS2.out.1
    rw [hg7] at HX hgl
    simp only [hg7]
    clear hg7 HS2 r3 HV HW c1 f1 f3 sv ov
    have HX : Hid (RB w [(g7, csA v (maskL ((0 : Nat) : Int) 0 l)), (w.heap.size + 1, csA 0 z16), (w.heap.size, cs)] V) := Lib.hid (by rw [show ((0 : Nat) : Int) = 0 from rfl, maskL_start hl HBY.out]; exact HX.out)
    go_wp2_with fail
    go_loopw [8] (fun i wr => ∃ k : Nat, (k : Int) ≤ bs ∧ i = .int .i64 (k : Int) ∧ RB w [(g7, csA v (maskL (k : Int) 0 l)), (w.heap.size + 1, csA 0 z16), (w.heap.size, cs)] wr) (fun i _ => (bs - intOf i).toNat)
    case atStart => exact ⟨0, by omega, rfl, HX.out⟩
    case round =>
      obtain ⟨k, hk, rfl, hs⟩ := hrel
      clear HX
      by_cases hlt : (k : Int) < bs
      · have b1 : decide ((k : Int) < bs) = true := by simpa using hlt
        obtain ⟨q, hq⟩ : ∃ q, q = k / 8 := ⟨_, rfl⟩
        obtain ⟨p, hp⟩ : ∃ p, p = k % 8 := ⟨_, rfl⟩
        obtain ⟨bt, hbt⟩ : ∃ bt, bt = bitP l k := ⟨_, rfl⟩
        have hb01 : 0 ≤ bt ∧ bt ≤ 1 := by rw [hbt]; exact bitP_01 l k
        have HBT : Hid (∀ W, Calls Tryz.prog 79 #[.agg cs, .int .i64 (k : Int)] W fun e w' => e = .returned (.int .u8 bt) ∧ Below W.heap.size W w') := Lib.hid (by rw [hbt]; exact HB0.out k (by omega))
        have hq16 : q < 16 := by omega
        obtain ⟨x, hx⟩ : ∃ x, (maskL (k : Int) 0 l)[q]? = some x := ⟨_, List.getElem?_eq_getElem (by rw [maskL_length]; omega)⟩
        have hxb := maskL_bytes (k : Int) 0 l HBY.out x (List.mem_of_getElem? hx)
        have HFIN0 : ∀ W, RB w [(g7, csA v (maskL (k : Int) 0 l)), (w.heap.size + 1, csA 0 z16), (w.heap.size, cs)] W → RB w [(g7, csA v (maskL ((k + 1 : Nat) : Int) 0 l)), (w.heap.size + 1, csA 0 z16), (w.heap.size, cs)] (W.setCell ⟨g7, 1 + q, none⟩ (.int .u8 (bits .or .u8 x (bt * 2 ^ (7 - p))))) := fun W h => by
          have e := maskL_succ hl HBY.out k (by omega) x (by rw [← hq]; exact hx)
          rw [← hq, ← hp, ← hbt] at e
          refine ⟨?_, ?_, ?_, ?_⟩
          · rw [← e]; exact rowAt_set h.1 q _
          · rw [rowAt_set_other (by omega)]; exact h.2.1
          · rw [rowAt_set_other (by omega)]; exact h.2.2.1
          · exact Below.setCell h.base (by show w.heap.size ≤ g7; omega) _
        have HFIN := Lib.hid HFIN0; clear HFIN0
        have HCX : Hid (∀ W, rowAt W g7 = some (csA v (maskL (k : Int) 0 l)) → W.cell? ⟨g7, 1 + q, none⟩ = some (.int .u8 x)) := Lib.hid (fun W h => rowAt_bytes h q x hx)
        have d1 : (k : Int).tdiv 8 = (q : Int) := by rw [Int.tdiv_eq_ediv_of_nonneg (by omega)]; omega
        have d2 : (k : Int).tmod 8 = (p : Int) := by rw [Int.tmod_eq_emod_of_nonneg (by omega)]; omega
        have wq1 : IntKind.i64.wrap (q : Int) = (q : Int) := by rw [IntKind.wrap_i64]; omega
        have hsh := Lib.hid (shl_bit bt p hb01 (by omega))
        obtain ⟨cm, hcm⟩ : ∃ c, c = csA v (maskL (k : Int) 0 l) := ⟨_, rfl⟩
        rw [← hcm] at hs HCX HFIN
        clear hcm hx hbt hq hp HB0
        go_wp2_with fail
        replace hs := hs.drew
        refine wp_region_U 17 (fun w' => RB w [(g7, cm), (w.heap.size + 1, csA 0 z16), (w.heap.size, cs)] w') (by kernel_rfl) ?_
        refine wpAnyU_take (i := 0) (v := ?_) (by simp only [List.getElem?_toArray, List.getElem?_cons_zero]; rfl) (by kernel_rfl) (by kernel_rfl) (by kernel_rfl) (by decide) (by kernel_rfl) (by kernel_rfl) (by exact fun _ _ _ h => h) (Or.inl ⟨by rfl, ?_⟩) (by exact hs) ?_
        rotate_left
        · intro wq hSw
          clear hSw
          go_simp
          all_goals (with_reducible rfl)
        try simp only [Act.put, List.setIfInBounds_toArray, List.set_cons_zero, List.set_cons_succ]
        refine wpAnyU_take (i := 1) (v := ?_) (by simp only [List.getElem?_toArray, List.getElem?_cons_succ, List.getElem?_cons_zero]; rfl) (by kernel_rfl) (by kernel_rfl) (by kernel_rfl) (by decide) (by kernel_rfl) (by kernel_rfl) (by exact fun _ _ _ h => h) (Or.inl ⟨by rfl, ?_⟩) (by exact hs) ?_
        rotate_left
        · intro wq hSw
          clear hSw
          go_simp
          all_goals (with_reducible rfl)
        try simp only [Act.put, List.setIfInBounds_toArray, List.set_cons_zero, List.set_cons_succ]
        refine wpAnyU_take (i := 2) (v := ?_) (by simp only [List.getElem?_toArray, List.getElem?_cons_succ, List.getElem?_cons_zero]; rfl) (by kernel_rfl) (by kernel_rfl) (by kernel_rfl) (by decide) (by kernel_rfl) (by kernel_rfl) (by exact fun _ _ _ h => h) (Or.inl ⟨by rfl, ?_⟩) (by exact hs) ?_
        rotate_left
        · intro wq hSw
          clear hSw
          go_simp
          all_goals (with_reducible rfl)
        try simp only [Act.put, List.setIfInBounds_toArray, List.set_cons_zero, List.set_cons_succ]
        refine wpAnyU_take (i := 3) (v := ?_) (by simp only [List.getElem?_toArray, List.getElem?_cons_succ, List.getElem?_cons_zero]; rfl) (by kernel_rfl) (by kernel_rfl) (by kernel_rfl) (by decide) (by kernel_rfl) (by kernel_rfl) (by exact fun _ _ _ h => h) (Or.inl ⟨by rfl, ?_⟩) (by exact hs) ?_
        rotate_left
        · intro wq hSw
          clear hSw
          go_simp
          all_goals (with_reducible rfl)
        try simp only [Act.put, List.setIfInBounds_toArray, List.set_cons_zero, List.set_cons_succ]
        refine wpAnyU_take (i := 4) (v := ?_) (by simp only [List.getElem?_toArray, List.getElem?_cons_succ, List.getElem?_cons_zero]; rfl) (by kernel_rfl) (by kernel_rfl) (by kernel_rfl) (by decide) (by kernel_rfl) (by kernel_rfl) (by exact fun _ _ _ h => h) (Or.inl ⟨by rfl, ?_⟩) (by exact hs) ?_
        rotate_left
        · intro wq hSw
          clear hSw
          go_simp
          all_goals (with_reducible rfl)
        try simp only [Act.put, List.setIfInBounds_toArray, List.set_cons_zero, List.set_cons_succ]
        refine wpAnyU_take (i := 5) (by simp only [List.getElem?_toArray, List.getElem?_cons_succ, List.getElem?_cons_zero]; rfl) (by kernel_rfl) (by kernel_rfl) (by kernel_rfl) (by decide) (by kernel_rfl) (by kernel_rfl) (by exact fun _ _ _ h => h) (yields_ix22 (by rfl) _ _ rfl g7 q _ rfl rfl (by first | rfl | exact wq1 | exact d1) hq16) (by exact hs) ?_
        try simp only [Act.put, List.setIfInBounds_toArray, List.set_cons_zero, List.set_cons_succ]
        refine wpAnyU_take (i := 6) (by simp only [List.getElem?_toArray, List.getElem?_cons_succ, List.getElem?_cons_zero]; rfl) (by kernel_rfl) (by kernel_rfl) (by kernel_rfl) (by decide) (by kernel_rfl) (by kernel_rfl) (by exact fun _ _ _ h => h) (yields_ld (ad := ⟨g7, 1 + q, none⟩) (by rfl) _ rfl rfl (fun w' h => load5 (HCX.out w' h.1))) (by exact hs) ?_
        try simp only [Act.put, List.setIfInBounds_toArray, List.set_cons_zero, List.set_cons_succ]
        refine wpAnyU_take (i := 7) (by simp only [List.getElem?_toArray, List.getElem?_cons_succ, List.getElem?_cons_zero]; rfl) (by kernel_rfl) (by kernel_rfl) (by kernel_rfl) (by decide) (by kernel_rfl) (by kernel_rfl) (by exact fun _ _ _ h => h) (yields_ld (ad := ⟨w.heap.size, 0, none⟩) (by rfl) _ rfl rfl (fun w' h => ld24 h.2.2.1)) (by exact hs) ?_
        try simp only [Act.put, List.setIfInBounds_toArray, List.set_cons_zero, List.set_cons_succ]
        refine wpAnyU_take (i := 8) (v := ?_) (by simp only [List.getElem?_toArray, List.getElem?_cons_succ, List.getElem?_cons_zero]; rfl) (by kernel_rfl) (by kernel_rfl) (by kernel_rfl) (by decide) (by kernel_rfl) (by kernel_rfl) (by exact fun _ _ _ h => h) (Or.inl ⟨by rfl, ?_⟩) (by exact hs) ?_
        rotate_left
        · intro wq hSw
          clear hSw
          go_simp
          all_goals (with_reducible rfl)
        try simp only [Act.put, List.setIfInBounds_toArray, List.set_cons_zero, List.set_cons_succ]
        refine wpAnyU_take (i := 10) (v := ?_) (by simp only [List.getElem?_toArray, List.getElem?_cons_succ, List.getElem?_cons_zero]; rfl) (by kernel_rfl) (by kernel_rfl) (by kernel_rfl) (by decide) (by kernel_rfl) (by kernel_rfl) (by exact fun _ _ _ h => h) (Or.inl ⟨by rfl, ?_⟩) (by exact hs) ?_
        rotate_left
        · intro wq hSw
          clear hSw
          go_simp
          all_goals (with_reducible rfl)
        try simp only [Act.put, List.setIfInBounds_toArray, List.set_cons_zero, List.set_cons_succ]
        refine wpAnyU_take (i := 11) (v := ?_) (by simp only [List.getElem?_toArray, List.getElem?_cons_succ, List.getElem?_cons_zero]; rfl) (by kernel_rfl) (by kernel_rfl) (by kernel_rfl) (by decide) (by kernel_rfl) (by kernel_rfl) (by exact fun _ _ _ h => h) (Or.inl ⟨by rfl, ?_⟩) (by exact hs) ?_
        rotate_left
        · intro wq hSw
          clear hSw
          go_simp
          all_goals (with_reducible rfl)
        try simp only [Act.put, List.setIfInBounds_toArray, List.set_cons_zero, List.set_cons_succ]
        refine wpAnyU_take (i := 12) (v := ?_) (by simp only [List.getElem?_toArray, List.getElem?_cons_succ, List.getElem?_cons_zero]; rfl) (by kernel_rfl) (by kernel_rfl) (by kernel_rfl) (by decide) (by kernel_rfl) (by kernel_rfl) (by exact fun _ _ _ h => h) (Or.inl ⟨by rfl, ?_⟩) (by exact hs) ?_
        rotate_left
        · intro wq hSw
          clear hSw
          go_simp
          all_goals (with_reducible rfl)
        try simp only [Act.put, List.setIfInBounds_toArray, List.set_cons_zero, List.set_cons_succ]
        refine wpAnyU_ready (rs := [9, 15]) (by kernel_rfl) (by simp) ?_
        refine ReadyU.cons (by simp only [List.getElem?_toArray, List.getElem?_cons_succ, List.getElem?_cons_zero]; rfl) (fun K hK => ?_) (ReadyU.cons (by simp only [List.getElem?_toArray, List.getElem?_cons_succ, List.getElem?_cons_zero]; rfl) (fun K hK => ?_) ReadyU.nil)
        · go_simp
          refine (HBT.out _).mono ?_
          rintro E y1 ⟨rfl, hb⟩
          replace hs := hs.on hb
          clear hb
          go_wp2_with fail
          refine hK.out _ _ (fun _ => hs) ?_
          clear hK K
          try simp only [Act.put, List.setIfInBounds_toArray, List.set_cons_zero, List.set_cons_succ]
          refine wpAnyU_take (i := 13) (v := ?_) (by simp only [List.getElem?_toArray, List.getElem?_cons_succ, List.getElem?_cons_zero]; rfl) (by kernel_rfl) (by kernel_rfl) (by kernel_rfl) (by decide) (by kernel_rfl) (by kernel_rfl) (by exact fun _ _ _ h => h) (Or.inl ⟨by rfl, ?_⟩) (by exact hs) ?_
          rotate_left
          · intro wq hSw
            clear hSw
            go_simp
            (try simp only [hsh.out wq, Result.andThen_ok])
            all_goals (with_reducible rfl)
          try simp only [Act.put, List.setIfInBounds_toArray, List.set_cons_zero, List.set_cons_succ]
          refine wpAnyU_take (i := 14) (v := ?_) (by simp only [List.getElem?_toArray, List.getElem?_cons_succ, List.getElem?_cons_zero]; rfl) (by kernel_rfl) (by kernel_rfl) (by kernel_rfl) (by decide) (by kernel_rfl) (by kernel_rfl) (by exact fun _ _ _ h => h) (Or.inl ⟨by rfl, ?_⟩) (by exact hs) ?_
          rotate_left
          · intro wq hSw
            clear hSw
            go_simp
            all_goals (with_reducible rfl)
          try simp only [Act.put, List.setIfInBounds_toArray, List.set_cons_zero, List.set_cons_succ]
          refine wpAnyU_ready (rs := [15]) (by kernel_rfl) (by simp) ?_
          refine ReadyU.cons (by simp only [List.getElem?_toArray, List.getElem?_cons_succ, List.getElem?_cons_zero]; rfl) (fun K hK => ?_) ReadyU.nil
          go_simp
          refine hK.out _ _ (fun _ => hs) ?_
          clear hK K
          try simp only [Act.put, List.setIfInBounds_toArray, List.set_cons_zero, List.set_cons_succ]
          refine wpAnyU_take (i := 16) (by simp only [List.getElem?_toArray, List.getElem?_cons_succ, List.getElem?_cons_zero]; rfl) (by kernel_rfl) (by kernel_rfl) (by kernel_rfl) (by decide) (by kernel_rfl) (by kernel_rfl) (by exact fun _ _ _ h => h) (yields_ix22 (by rfl) _ _ rfl g7 q _ rfl rfl (by first | rfl | exact wq1 | exact d1) hq16) (by exact hs) ?_
          try simp only [Act.put, List.setIfInBounds_toArray, List.set_cons_zero, List.set_cons_succ]
          refine wpAnyU_ready (rs := [17]) (by kernel_rfl) (by simp) ?_
          refine ReadyU.cons (by simp only [List.getElem?_toArray, List.getElem?_cons_succ, List.getElem?_cons_zero]; rfl) (fun K hK => ?_) ReadyU.nil
          refine step_store5 rfl 48 46 rfl g7 (1 + q) rfl _ rfl _ (HCX.out _ hs.1) (rowAt_free hs.1 _) ?_
          refine hK.out _ _ (by intro h; simp at h) ?_
          clear hK K
          try simp only [Act.put]
          refine wpAnyU_done (by kernel_rfl) ?_ _
          have hs' := HFIN.out _ hs
          clear hs
          generalize y1.setCell ⟨g7, 1 + q, none⟩ _ = y2 at *
          go_wp2_with fail
          go_roundw
          all_goals first | exact ⟨k + 1, by omega, by go_num, hs'⟩ | (simp [intOf]; omega)
        · go_simp
          refine hK.out _ _ (fun _ => hs) ?_
          clear hK K
          try simp only [Act.put, List.setIfInBounds_toArray, List.set_cons_zero, List.set_cons_succ]
          refine wpAnyU_ready (rs := [9]) (by kernel_rfl) (by simp) ?_
          refine ReadyU.cons (by simp only [List.getElem?_toArray, List.getElem?_cons_succ, List.getElem?_cons_zero]; rfl) (fun K hK => ?_) ReadyU.nil
          go_simp
          refine (HBT.out _).mono ?_
          rintro E y1 ⟨rfl, hb⟩
          replace hs := hs.on hb
          clear hb
          go_wp2_with fail
          refine hK.out _ _ (fun _ => hs) ?_
          clear hK K
          try simp only [Act.put, List.setIfInBounds_toArray, List.set_cons_zero, List.set_cons_succ]
          refine wpAnyU_take (i := 13) (v := ?_) (by simp only [List.getElem?_toArray, List.getElem?_cons_succ, List.getElem?_cons_zero]; rfl) (by kernel_rfl) (by kernel_rfl) (by kernel_rfl) (by decide) (by kernel_rfl) (by kernel_rfl) (by exact fun _ _ _ h => h) (Or.inl ⟨by rfl, ?_⟩) (by exact hs) ?_
          rotate_left
          · intro wq hSw
            clear hSw
            go_simp
            (try simp only [hsh.out wq, Result.andThen_ok])
            all_goals (with_reducible rfl)
          try simp only [Act.put, List.setIfInBounds_toArray, List.set_cons_zero, List.set_cons_succ]
          refine wpAnyU_take (i := 14) (v := ?_) (by simp only [List.getElem?_toArray, List.getElem?_cons_succ, List.getElem?_cons_zero]; rfl) (by kernel_rfl) (by kernel_rfl) (by kernel_rfl) (by decide) (by kernel_rfl) (by kernel_rfl) (by exact fun _ _ _ h => h) (Or.inl ⟨by rfl, ?_⟩) (by exact hs) ?_
          rotate_left
          · intro wq hSw
            clear hSw
            go_simp
            all_goals (with_reducible rfl)
          try simp only [Act.put, List.setIfInBounds_toArray, List.set_cons_zero, List.set_cons_succ]
          refine wpAnyU_take (i := 16) (by simp only [List.getElem?_toArray, List.getElem?_cons_succ, List.getElem?_cons_zero]; rfl) (by kernel_rfl) (by kernel_rfl) (by kernel_rfl) (by decide) (by kernel_rfl) (by kernel_rfl) (by exact fun _ _ _ h => h) (yields_ix22 (by rfl) _ _ rfl g7 q _ rfl rfl (by first | rfl | exact wq1 | exact d1) hq16) (by exact hs) ?_
          try simp only [Act.put, List.setIfInBounds_toArray, List.set_cons_zero, List.set_cons_succ]
          refine wpAnyU_ready (rs := [17]) (by kernel_rfl) (by simp) ?_
          refine ReadyU.cons (by simp only [List.getElem?_toArray, List.getElem?_cons_succ, List.getElem?_cons_zero]; rfl) (fun K hK => ?_) ReadyU.nil
          refine step_store5 rfl 48 46 rfl g7 (1 + q) rfl _ rfl _ (HCX.out _ hs.1) (rowAt_free hs.1 _) ?_
          refine hK.out _ _ (by intro h; simp at h) ?_
          clear hK K
          try simp only [Act.put]
          refine wpAnyU_done (by kernel_rfl) ?_ _
          have hs' := HFIN.out _ hs
          clear hs
          generalize y1.setCell ⟨g7, 1 + q, none⟩ _ = y2 at *
          go_wp2_with fail
          go_roundw
          all_goals first | exact ⟨k + 1, by omega, by go_num, hs'⟩ | (simp [intOf]; omega)
      · obtain rfl : bs = (k : Int) := by omega
        have b1 : decide ((k : Int) < (k : Int)) = false := by simp
        have hsz : (csA v (maskL (k : Int) 0 l)).size = 17 := csA_size (by rw [maskL_length, hl])
        have hon := csA_one v (maskL (k : Int) 0 l)
        obtain ⟨cz, hcz⟩ : ∃ c, c = csA v (maskL (k : Int) 0 l) := ⟨_, rfl⟩
        rw [← hcz] at hs hsz hon
        have HCZ := Lib.hid hcz; clear hcz
        have HF : Hid (Below w.heap.size w (wr.setRow (w.heap.size + 1) cz) ∧ rowAt (wr.setRow (w.heap.size + 1) cz) (w.heap.size + 1) = some cz) := Lib.hid ⟨below_setRow hs.base (by omega) _, rowAt_setRow hs.2.1 _ hsz⟩
        have t1 := hs.1; have t2 := hs.2.1
        clear hs
        go_wp2_with (first
          | (refine wpList_load24 rfl _ rfl _ rfl _ t1 ?_)
          | (refine wpList_store24o rfl _ _ rfl _ rfl _ _ t2 rfl hsz hon ?_))
        refine bodyPost_ret (v := .tuple #[.agg cz, .int .i64 0]) ?_ rfl ⟨by rw [HCZ.out], HF.out.1⟩
        exact result24t rfl _ _ _ _ _ rfl rfl HF.out.2
  · have ok : maskOk v l bs = false := by simpa using ok
    have h' := HOK.out; rw [ok] at h'
    have HN : Hid (false = (e1 && (decide (0 ≤ bs) && decide (bs ≤ wd)))) := Lib.hid h'
    clear h' HOK HRA HRE HB0
    cases e1
    · go_enter Tryz.func56, Tryz.ntmps56
      go_wp2_with (first
        | (refine wpList_load24 rfl _ rfl _ rfl _ (by assumption) ?_)
        | (refine wpList_store24o rfl _ _ rfl _ rfl _ _ (by assumption) rfl hz1 hz3 ?_)
        | (go_at_call 39; refine (HV.out _).mono ?_; rintro e w2 ⟨rfl, hb⟩; have HS1 := Lib.hid (HS0.out.on hb); have t2 := HS1.out.1; rw [csA_z] at t2; clear hb r1))
      obtain ⟨rfl, rfl, k1, k2⟩ := HBAD.out w2 ok HS1.out
      refine bodyPost_ret (v := .tuple #[.agg (csA 0 z16), .int .i64 1]) ?_ rfl ⟨rfl, k1⟩
      exact result24t rfl _ _ _ _ _ rfl rfl k2
    · by_cases hb0 : bs < 0
      · have f1 : decide (bs < 0) = true := by simpa using hb0
        go_enter Tryz.func56, Tryz.ntmps56
        go_wp2_with (first
          | (refine wpList_load24 rfl _ rfl _ rfl _ (by assumption) ?_)
          | (refine wpList_store24o rfl _ _ rfl _ rfl _ _ (by assumption) rfl hz1 hz3 ?_)
          | (go_at_call 39; refine (HV.out _).mono ?_; rintro e w2 ⟨rfl, hb⟩; have HS1 := Lib.hid (HS0.out.on hb); have t2 := HS1.out.1; rw [csA_z] at t2; clear hb r1))
        obtain ⟨rfl, rfl, k1, k2⟩ := HBAD.out w2 ok HS1.out
        refine bodyPost_ret (v := .tuple #[.agg (csA 0 z16), .int .i64 1]) ?_ rfl ⟨rfl, k1⟩
        exact result24t rfl _ _ _ _ _ rfl rfl k2
      · have f1 : decide (bs < 0) = false := by simpa using hb0
        have f2 : wd < bs := by
          have := HN.out
          simp only [Bool.true_and, Bool.false_eq, Bool.and_eq_false_iff, decide_eq_false_iff_not] at this
          omega
        have f3 : decide (wd < bs) = true := by simpa using f2
        go_enter Tryz.func56, Tryz.ntmps56
        go_wp2_with (first
          | (refine wpList_load24 rfl _ rfl _ rfl _ (by assumption) ?_)
          | (refine wpList_store24o rfl _ _ rfl _ rfl _ _ (by assumption) rfl hz1 hz3 ?_)
          | (go_at_call 39; refine (HV.out _).mono ?_; rintro e w2 ⟨rfl, hb⟩; have HS1 := Lib.hid (HS0.out.on hb); have r2 := HS1.out.2.1; clear hb r1 HS0)
          | (go_at_call 55; refine (HW.out _).mono ?_; rintro e w3 ⟨rfl, hb⟩; have HS2 := Lib.hid (HS1.out.on hb); have t2 := HS2.out.1; rw [csA_z] at t2; clear hb r2 HS1))
        obtain ⟨rfl, rfl, k1, k2⟩ := HBAD.out w3 ok HS2.out
        refine bodyPost_ret (v := .tuple #[.agg (csA 0 z16), .int .i64 1]) ?_ rfl ⟨rfl, k1⟩
        exact result24t rfl _ _ _ _ _ rfl rfl k2
end Go.Proofs.YtoifolmcdkfniabGreatDoor
