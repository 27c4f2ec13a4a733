/-
  The law's own long form.
-/
import Derived.Test.YtclfhajapohogaaDoorBack3
import Derived.Test.YtclfhajapohogaaDoorDrawn
import Derived.Deep.CutBlock
import Derived.Deep.DeepCutAuto
import Derived.Deep.RegionHeld3
import Derived.Deep.RegionWith
namespace Go.Proofs.YtclfhajapohogaaDoor
open Go.ChangeShapes Go.WideShapes Go.ChangeAt Go.RowKit
set_option linter.unusedVariables false
set_option maxHeartbeats 4000000
set_option maxRecDepth 100000

def LS (w0 : World) (g : Nat) (cs : Array Value) (w : World) : Prop := rowAt w g = some cs ∧ Below w0.heap.size w0 w ∧ g < w.heap.size
/-- What the second loop holds: the text so far. -/
def LongAt (gs : List Nat) (gap L i : Nat) (t : List UInt8) : Prop :=
  ((L = 0 ∨ i ≤ gap) ∧ Seg t (gs.take i)) ∨ (0 < L ∧ gap + L ≤ i ∧ ∃ u y, t = u ++ 58 :: 58 :: y ∧ Seg u (gs.take gap) ∧ Seg y ((gs.drop (gap + L)).take (i - (gap + L))))
theorem LongAt.start (gs : List Nat) (gap L : Nat) : LongAt gs gap L 0 [] := .inl ⟨.inr (Nat.zero_le _), by simpa using Seg.nil⟩
theorem LongAt.skip {gs : List Nat} {gap L : Nat} {t : List UInt8} (h : LongAt gs gap L gap t) (hL : 0 < L) : LongAt gs gap L (gap + L) (t ++ [58, 58]) := by
  rcases h with ⟨_, h⟩ | ⟨_, h, _⟩
  · exact .inr ⟨hL, Nat.le_refl _, t, [], by simp, h, by simpa using Seg.nil⟩
  · omega
theorem Seg.emp {t : List UInt8} (h : Seg t []) : t = [] := by
  obtain ⟨xs, rfl, ha, hf⟩ := h
  have := alls_length _ _ _ ha
  obtain rfl : xs = [] := List.length_eq_zero_iff.1 this.symm
  rfl
theorem take_snoc {gs : List Nat} {i g : Nat} (h : gs[i]? = some g) : gs.take (i + 1) = gs.take i ++ [g] := by rw [List.take_add_one, h]; rfl
theorem LongAt.next {gs : List Nat} {gap L i g : Nat} {t x : List UInt8} (h : LongAt gs gap L i t) (hne : ¬ (i = gap ∧ 0 < L)) (hg : gs[i]? = some g) (hx : numOf 16 4 x = some g) (hc : (58 : UInt8) ∉ x) :
    LongAt gs gap L (i + 1) (if 0 < i ∧ ¬ (0 < L ∧ i = gap + L) then t ++ 58 :: x else t ++ x) := by
  have hi : i < gs.length := (List.getElem?_eq_some_iff.1 hg).1
  rcases h with ⟨ho, h⟩ | ⟨hL, hi2, u, y, rfl, hu, hy⟩
  · have hs := h.snoc hx hc
    rw [← take_snoc hg] at hs
    refine .inl ⟨by omega, ?_⟩
    by_cases h0 : i = 0
    · subst h0
      rw [if_neg (by omega)]
      rw [List.take_zero] at h hs
      rw [if_pos rfl] at hs
      rw [h.emp]
      exact hs
    · rw [if_pos (by omega)]
      rw [if_neg (by intro h1; have := congrArg List.length h1; rw [List.length_take, List.length_nil] at this; omega)] at hs
      exact hs
  · have hg' : (gs.drop (gap + L))[i - (gap + L)]? = some g := by rw [List.getElem?_drop, show gap + L + (i - (gap + L)) = i from by omega]; exact hg
    have hs := hy.snoc hx hc
    rw [← take_snoc hg'] at hs
    refine .inr ⟨hL, by omega, u, if (gs.drop (gap + L)).take (i - (gap + L)) = [] then x else y ++ 58 :: x, ?_, hu, by rw [show i + 1 - (gap + L) = i - (gap + L) + 1 from by omega]; exact hs⟩
    by_cases h0 : i = gap + L
    · rw [if_neg (by omega)]
      rw [h0, Nat.sub_self, List.take_zero] at hy ⊢
      rw [hy.emp, if_pos rfl]
      simp
    · rw [if_pos (by omega), if_neg (by intro h1; have := congrArg List.length h1; rw [List.length_take, List.length_drop, List.length_nil] at this; omega)]
      simp
theorem LongAt.done {gs : List Nat} {gap L : Nat} {t : List UInt8} (h : LongAt gs gap L 8 t) (hg : gs.length = 8) (hgap : gap < 8) (hL8 : gap + L ≤ 8) (hz : ∀ j, gap ≤ j → j < gap + L → gs.getD j 0 = 0) : parseP t = (6, unG gs, 0) := by
  rcases h with ⟨ho, h⟩ | ⟨hL, hi2, u, y, rfl, hu, hy⟩
  · rw [List.take_of_length_le (by omega)] at h
    exact seg_full h hg
  · rw [List.take_of_length_le (by simp; omega)] at hy
    have := seg_gap hu hy (by simp; omega)
    rw [joinG_self hg (by omega) hL8 hz] at this
    exact this
#print axioms LongAt.done
theorem index22 (g i o : Nat) (z : Int) (hz : z = (i : Int)) (hi : i < 16) (ho : o = 1 + i) (W : World) : (Instr.indexAt 22 (.pointer (some ⟨g, 1, none⟩)) (.int .i64 z)).run Tryd.prog W = .ok (.pointer (some ⟨g, o, none⟩)) W := by
  subst hz ho
  have ht : Tryd.prog.underlying 22 = some (.array (Tryd.prog.arrayLen 22) (Tryd.prog.elem 22)) := by kernel_rfl
  have hal : Tryd.prog.arrayLen 22 = 16 := by kernel_rfl
  have hel : Tryd.prog.elem 22 = 5 := by kernel_rfl
  have hsz : (sizeOf 5).run Tryd.prog W = .ok 1 W := by kernel_rfl
  rw [run_indexAt_array W 22 ⟨g, 1, none⟩ .i64 (i : Int) ht, hal, hel, if_pos ⟨by omega, by omega⟩, hsz]
  simp only [Result.andThen, add_plain, Int.toNat_natCast, Nat.mul_one]
theorem load5 {w : World} {ad : Addr} {z : Int} (h : w.cell? ad = some (.int .u8 z)) : (Instr.loadAt 5 (.pointer (some ad))).run Tryd.prog w = .ok (.int .u8 z) w := by
  simp [go_sem, Instr.loadAt, Instr.sureAddr, h]
theorem quiet_load5 {o : Oper} {a : Act} {C : World → Prop} {K : Act → Prop} (x : Operand) (ho : o.op = .load 5 x) (ad : Addr) (hx : a.eval x = .pointer (some ad)) (z : Int) (hC : ∀ w, C w → w.cell? ad = some (.int .u8 z)) (hk : K (a.put o.dst (.int .u8 z))) : o.quiet Tryd.prog a C K := by
  refine ⟨.int .u8 z, fun w hw => ?_, hk⟩
  unfold Oper.quietAt execOp
  simp only [ho, hx, Sem.run_bind, load5 (hC w hw), Result.andThen_ok]
  exact ⟨rfl, rfl⟩
theorem quiet_index22 {o : Oper} {a : Act} {C : World → Prop} {K : Act → Prop} (x ix : Operand) (ho : o.op = .indexAddr 22 x ix) (g i : Nat) (z : Int) (hx : a.eval x = .pointer (some ⟨g, 1, none⟩)) (hix : a.eval ix = .int .i64 z) (hz : z = (i : Int)) (hi : i < 16) (hk : K (a.put o.dst (.pointer (some ⟨g, 1 + i, none⟩)))) : o.quiet Tryd.prog a C K := by
  refine ⟨.pointer (some ⟨g, 1 + i, none⟩), fun w hw => ?_, hk⟩
  unfold Oper.quietAt execOp
  simp only [ho, hx, hix, Sem.run_bind, index22 g i (1 + i) z hz hi rfl w, Result.andThen_ok]
  exact ⟨rfl, rfl⟩
theorem hxU_len {n least : Nat} (up : Bool) (h : n < 65536) (hl : least ≤ 4) : (hxU n least up).length ≤ 4 := by
  unfold hxU; rw [lowU_length]; exact (cnt_spec h hl).1
theorem long_c (v : Int) (l : List Int) (hl : l.length = 16) (hb : ∀ x ∈ l, 0 ≤ x ∧ x ≤ 255) (least gap most : Nat) (up : Bool) (hl1 : 1 ≤ least) (hl4 : least ≤ 4) (hgap : gap < 8) (hm : most ≤ 8) (w : World) :
    Calls Tryd.prog 18 #[.agg (csA v l), .int .i64 (least : Int), .bool up, .int .i64 (gap : Int), .int .i64 (most : Int)] w fun e w' => ∃ t : List UInt8, e = .returned (.string ⟨t.toArray⟩) ∧ parseP t = (6, l, 0) ∧ t.length ≤ 48 ∧ Below w.heap.size w w' := by
  obtain ⟨cs, hcs⟩ : ∃ c, c = csA v l := ⟨_, rfl⟩
  have hgl := grpOf_length hl
  have hgb := grpOf_lt l hb
  have hun := unG_grpOf l (by omega) hb
  obtain ⟨gs, hgs⟩ : ∃ gs, gs = grpOf l := ⟨_, rfl⟩
  have HGET : Hid (∀ k, k < 8 → ∃ x y : Nat, x < 256 ∧ y < 256 ∧ l[2 * k]? = some (x : Int) ∧ l[2 * k + 1]? = some (y : Int) ∧ gs[k]? = some (x * 256 + y)) := Lib.hid (fun k hk => by
    obtain ⟨x, hx⟩ : ∃ x, l[2 * k]? = some x := ⟨_, List.getElem?_eq_getElem (by omega)⟩
    obtain ⟨y, hy⟩ : ∃ y, l[2 * k + 1]? = some y := ⟨_, List.getElem?_eq_getElem (by omega)⟩
    have h1 := hb x (List.mem_of_getElem? hx)
    have h2 := hb y (List.mem_of_getElem? hy)
    refine ⟨x.toNat, y.toNat, by omega, by omega, ?_, ?_, ?_⟩
    · rw [hx]; congr 1; omega
    · rw [hy]; congr 1; omega
    · rw [hgs]; exact grpOf_get l k x y hx hy)
  rw [← hgs] at hgl hgb hun
  have HGL := Lib.hid hgl; have HGB := Lib.hid hgb; have HUN := Lib.hid hun
  rw [← hcs]
  have HROW : Hid (rowAt (w.alloc (.cells cs 24)) w.heap.size = some (csA v l) ∧ Below w.heap.size w (w.alloc (.cells cs 24)) ∧ w.heap.size < (w.alloc (.cells cs 24)).heap.size) := Lib.hid (by
    refine ⟨by rw [← hcs]; exact rowAt_new w cs 24 (by rw [hcs]; exact csA_size hl), (Below.refl _ _).alloc (Nat.le_refl _) _, by simp⟩)
  clear hgl hgb hun hcs hgs hb
  go_enter Tryd.func18, Tryd.ntmps18
  go_upto_block 0 with fail
  generalize w.alloc (.cells cs 24) = W at *
  go_cut [12] (fun lv wc => ∃ k : Nat, lv = .int .i64 (k : Int) ∧ gap + k ≤ 8 ∧ Hid (∀ j, gap ≤ j → j < gap + k → gs.getD j 0 = 0) ∧ wc = W)
  case first =>
    go_wp2_with fail
    go_loopw [12] (fun lv wr => ∃ k : Nat, lv = .int .i64 (k : Int) ∧ gap + k ≤ 8 ∧ k ≤ most ∧ Hid (∀ j, gap ≤ j → j < gap + k → gs.getD j 0 = 0) ∧ wr = W) (fun lv _ => 8 - (intOf lv).toNat)
    case atStart => exact ⟨0, rfl, by omega, by omega, Lib.hid (fun j h1 h2 => by omega), rfl⟩
    case round =>
      obtain ⟨k, rfl, hk8, hkm, HZ, hW⟩ := hrel
      subst hW
      by_cases hA : gap + k < 8 ∧ k < most
      · obtain ⟨x, y, hx, hy, lx, ly, hg⟩ := HGET.out (gap + k) hA.1
        have c1 := rowAt_bytes HROW.out.1 _ _ lx
        have c2 := rowAt_bytes HROW.out.1 _ _ ly
        have a1 : (gap : Int) + (k : Int) < 8 := by omega
        have a2 : (k : Int) < (most : Int) := by omega
        have b5 : (2 * ((gap : Int) + (k : Int))).toNat = 2 * (gap + k) := by omega
        have b6 : (2 * ((gap : Int) + (k : Int)) + 1).toNat = 2 * (gap + k) + 1 := by omega
        have HG := Lib.hid hg
        clear hg lx ly
        by_cases hx0 : x = 0
        · have hx0' : (x : Int) = 0 := by omega
          by_cases hy0 : y = 0
          · have hy0' : (y : Int) = 0 := by omega
            have HZ' : Hid (∀ j, gap ≤ j → j < gap + (k + 1) → gs.getD j 0 = 0) := Lib.hid (fun j h1 h2 => by
              rcases Nat.lt_or_ge j (gap + k) with h | h
              · exact HZ.out j h1 h
              · obtain rfl : j = gap + k := by omega
                rw [List.getD_eq_getElem?_getD, HG.out, hx0, hy0]; rfl)
            go_wp2_with fail
            go_roundw
            case rel => exact ⟨k + 1, by go_num, by omega, by omega, HZ', by trivial⟩
            case measure => simp [intOf]; omega
          · have hy0' : ¬ (y : Int) = 0 := by omega
            go_wp2_with fail
            go_meet
            exact ⟨k, rfl, by omega, HZ, rfl⟩
        · have hx0' : ¬ (x : Int) = 0 := by omega
          go_wp2_with fail
          go_meet
          exact ⟨k, rfl, by omega, HZ, rfl⟩
      · by_cases h8 : gap + k < 8
        · have a1 : (gap : Int) + (k : Int) < 8 := by omega
          have a2 : ¬ (k : Int) < (most : Int) := by omega
          go_wp2_with fail
          go_meet
          exact ⟨k, rfl, by omega, HZ, rfl⟩
        · have a1 : ¬ (gap : Int) + (k : Int) < 8 := by omega
          go_wp2_with fail
          go_meet
          exact ⟨k, rfl, by omega, HZ, rfl⟩
  case rest =>
    obtain ⟨L, rfl, hL8, HZ, hW⟩ := hcut
    subst hW
    go_wp2_with fail
    go_loopw [11, 13] (fun sv iv wr => ∃ (i : Nat) (t : List UInt8), i ≤ 8 ∧ iv = .int .i64 (i : Int) ∧ sv = .string ⟨t.toArray⟩ ∧ t.length ≤ 5 * i ∧ LongAt gs gap L i t ∧ rowAt wr w.heap.size = some (csA v l) ∧ Below w.heap.size w wr ∧ w.heap.size < wr.heap.size) (fun _ iv _ => 8 - (intOf iv).toNat)
    case atStart => exact ⟨0, [], by omega, rfl, rfl, by simp, LongAt.start _ _ _, HROW.out⟩
    case round =>
      obtain ⟨i, t, hi8, rfl, rfl, htl, hAt, hR⟩ := hrel
      have HAT := Lib.hid hAt
      have HRW := Lib.hid hR
      clear hAt hR HROW
      have hsz := bsize t
      by_cases h8 : i < 8
      · obtain ⟨x, y, hx, hy, lx, ly, hg⟩ := HGET.out i h8
        have c1 := rowAt_bytes HRW.out.1 _ _ lx
        have c2 := rowAt_bytes HRW.out.1 _ _ ly
        have a0 : (i : Int) < 8 := by omega
        have b5 : (2 * (i : Int)).toNat = 2 * i := by omega
        have b6 : (2 * (i : Int) + 1).toNat = 2 * i + 1 := by omega
        have HG := Lib.hid hg
        have LX := Lib.hid lx
        have LY := Lib.hid ly
        clear hg lx ly
        by_cases hskip : i = gap ∧ 0 < L
        · obtain ⟨rfl, hL0⟩ := hskip
          have a1 : (0 : Int) < (L : Int) := by omega
          have cc : ∀ W, (Op.stringOp .add ⟨t.toArray⟩ ⟨#[58, 58]⟩).run Tryd.prog W = .ok (.string ⟨(t ++ [58, 58]).toArray⟩) W := fun W => concat_c _ _ (by simp; omega) W
          go_wp2_with fail
          go_roundw
          case rel => exact ⟨i + L, t ++ [58, 58], by omega, by go_num, rfl, by simp; omega, HAT.out.skip hL0, HRW.out⟩
          case measure => simp [intOf]; omega
        · have hgn : x * 256 + y < 65536 := by omega
          obtain ⟨X, hX⟩ : ∃ X, X = hxU (x * 256 + y) least up := ⟨_, rfl⟩
          have hXl : X.length ≤ 4 := by rw [hX]; exact hxU_len up hgn hl4
          have HN : Hid (LongAt gs gap L (i + 1) (if 0 < i ∧ ¬ (0 < L ∧ i = gap + L) then t ++ 58 :: X else t ++ X)) := Lib.hid (by
            have h1 := num_hxU up hgn hl4
            rw [← hX] at h1
            exact HAT.out.next hskip HG.out h1.1 h1.2)
          have HX : Hid (∀ W, (rowAt W w.heap.size = some (csA v l) ∧ Below w.heap.size w W ∧ w.heap.size < W.heap.size) → Calls Tryd.prog 37 #[.int .i64 ((x : Int) * 256 + (y : Int)), .int .i64 (least : Int), .bool up] W fun e w' => e = .returned (.string ⟨X.toArray⟩) ∧ rowAt w' w.heap.size = some (csA v l) ∧ Below w.heap.size w w' ∧ w.heap.size < w'.heap.size) := Lib.hid (fun W h0 => by
            have := hexl_c (x * 256 + y) least up hgn hl1 hl4 W
            rw [hX, show (x : Int) * 256 + (y : Int) = ((x * 256 + y : Nat) : Int) from by omega]
            refine this.mono ?_
            rintro e w2 ⟨he, h2⟩
            have hs := h2.size
            exact ⟨he, rowAt_below h0.1 h2 h0.2.2, h0.2.1.trans (h2.mono (by omega)), by omega⟩)
          have cc : ∀ W, (Op.stringOp .add ⟨t.toArray⟩ ⟨#[58]⟩).run Tryd.prog W = .ok (.string ⟨(t ++ [58]).toArray⟩) W := fun W => concat_c _ _ (by simp; omega) W
          have HD : Hid (rowAt wr.drew w.heap.size = some (csA v l) ∧ Below w.heap.size w wr.drew ∧ w.heap.size < wr.drew.heap.size) := Lib.hid ⟨HRW.out.1, HRW.out.2.1.drew, HRW.out.2.2⟩
          have k1 : IntKind.i64.wrap (2 * (i : Int)) = 2 * (i : Int) := by simp [IntKind.wrap, IntKind.bits, IntKind.signed]; omega
          have k2 : IntKind.i64.wrap (2 * (i : Int) + 1) = 2 * (i : Int) + 1 := by simp [IntKind.wrap, IntKind.bits, IntKind.signed]; omega
          have kx : IntKind.i64.wrap (x : Int) = (x : Int) := by simp [IntKind.wrap, IntKind.bits, IntKind.signed]; omega
          have ky : IntKind.i64.wrap (y : Int) = (y : Int) := by simp [IntKind.wrap, IntKind.bits, IntKind.signed]; omega
          have k3 : IntKind.i64.wrap ((x : Int) * 256) = (x : Int) * 256 := by simp [IntKind.wrap, IntKind.bits, IntKind.signed]; omega
          have k4 : IntKind.i64.wrap ((x : Int) * 256 + (y : Int)) = (x : Int) * 256 + (y : Int) := by simp [IntKind.wrap, IntKind.bits, IntKind.signed]; omega
          clear hX HAT HG HRW
          by_cases hcol : 0 < i ∧ ¬ (0 < L ∧ i = gap + L)
          · rw [if_pos hcol] at HN
            obtain ⟨T, hT⟩ : ∃ T, T = t ++ [58] := ⟨_, rfl⟩
            have HN' : Hid (LongAt gs gap L (i + 1) (T ++ X) ∧ (T ++ X).length ≤ 5 * (i + 1)) := Lib.hid (by have := HN.out; rw [hT]; exact ⟨by simpa using this, by simp; omega⟩)
            have cT : ∀ W, (Op.stringOp .add ⟨T.toArray⟩ ⟨X.toArray⟩).run Tryd.prog W = .ok (.string ⟨(T ++ X).toArray⟩) W := fun W => concat_c _ _ (by rw [hT]; simp; omega) W
            rw [← hT] at cc
            clear HN hT
            have p1 : (0 : Int) < (i : Int) := by omega
            have hcase : (i = gap ∧ ¬ 0 < L) ∨ (i ≠ gap ∧ ¬ 0 < L) ∨ (i ≠ gap ∧ 0 < L ∧ i ≠ gap + L) := by omega
            clear hskip hcol
            rcases hcase with ⟨q1, q2⟩ | ⟨q1, q2⟩ | ⟨q1, q2, q3⟩
            · subst q1
              have q2' : ¬ (0 : Int) < (L : Int) := by omega
              go_wp2_with fail
              refine wp_region_cls (C := fun w' => rowAt w' w.heap.size = some (csA v l) ∧ Below w.heap.size w w' ∧ w.heap.size < w'.heap.size) (by kernel_rfl) (by kernel_rfl) HD.out ?_
              repeat (first
                  | go_big_quiet_skip
                  | (go_big_quiet_want
                     first
                       | (refine quiet_index22 _ _ rfl w.heap.size (2 * i) _ rfl rfl (by omega) (by omega) ?_; go_simp; go_big_quiet_on)
                       | (refine quiet_index22 _ _ rfl w.heap.size (2 * i + 1) _ rfl rfl (by omega) (by omega) ?_; go_simp; go_big_quiet_on)
                       | (refine quiet_load5 _ rfl ⟨w.heap.size, 1 + 2 * i, none⟩ rfl (x : Int) (fun w' h => rowAt_bytes h.1 _ _ LX.out) ?_; go_simp; go_big_quiet_on)
                       | (refine quiet_load5 _ rfl ⟨w.heap.size, 1 + (2 * i + 1), none⟩ rfl (y : Int) (fun w' h => rowAt_bytes h.1 _ _ LY.out) ?_; go_simp; go_big_quiet_on)
                       | (go_big_quiet_op; go_big_quiet_on)
                       | (refine quiet_call 37 #[.int .i64 ((x : Int) * 256 + (y : Int)), .int .i64 (least : Int), .bool up] (.string ⟨X.toArray⟩) ?_ HX.out ?_
                          · intro w; go_simp; first | done | rw [kx, k3, ky, k4]
                          go_simp; go_big_quiet_on)
                       | (refine quiet_val ?_ ?_ ?_
                          rotate_left
                          · intro w; go_simp; rfl
                          go_simp; go_big_quiet_on)))
              refine wpQuiet_nil ?_
              intro V hV
              go_wp2_with fail
              go_roundw
              case rel => exact ⟨i + 1, T ++ X, by omega, by go_num, rfl, HN'.out.2, HN'.out.1, hV⟩
              case measure => simp [intOf]; omega
            · have q1' : ¬ (i : Int) = (gap : Int) := by omega
              have q2' : ¬ (0 : Int) < (L : Int) := by omega
              go_wp2_with fail
              refine wp_region_cls (C := fun w' => rowAt w' w.heap.size = some (csA v l) ∧ Below w.heap.size w w' ∧ w.heap.size < w'.heap.size) (by kernel_rfl) (by kernel_rfl) HD.out ?_
              repeat (first
                  | go_big_quiet_skip
                  | (go_big_quiet_want
                     first
                       | (refine quiet_index22 _ _ rfl w.heap.size (2 * i) _ rfl rfl (by omega) (by omega) ?_; go_simp; go_big_quiet_on)
                       | (refine quiet_index22 _ _ rfl w.heap.size (2 * i + 1) _ rfl rfl (by omega) (by omega) ?_; go_simp; go_big_quiet_on)
                       | (refine quiet_load5 _ rfl ⟨w.heap.size, 1 + 2 * i, none⟩ rfl (x : Int) (fun w' h => rowAt_bytes h.1 _ _ LX.out) ?_; go_simp; go_big_quiet_on)
                       | (refine quiet_load5 _ rfl ⟨w.heap.size, 1 + (2 * i + 1), none⟩ rfl (y : Int) (fun w' h => rowAt_bytes h.1 _ _ LY.out) ?_; go_simp; go_big_quiet_on)
                       | (go_big_quiet_op; go_big_quiet_on)
                       | (refine quiet_call 37 #[.int .i64 ((x : Int) * 256 + (y : Int)), .int .i64 (least : Int), .bool up] (.string ⟨X.toArray⟩) ?_ HX.out ?_
                          · intro w; go_simp; first | done | rw [kx, k3, ky, k4]
                          go_simp; go_big_quiet_on)
                       | (refine quiet_val ?_ ?_ ?_
                          rotate_left
                          · intro w; go_simp; rfl
                          go_simp; go_big_quiet_on)))
              refine wpQuiet_nil ?_
              intro V hV
              go_wp2_with fail
              go_roundw
              case rel => exact ⟨i + 1, T ++ X, by omega, by go_num, rfl, HN'.out.2, HN'.out.1, hV⟩
              case measure => simp [intOf]; omega
            · have q1' : ¬ (i : Int) = (gap : Int) := by omega
              have q2' : (0 : Int) < (L : Int) := by omega
              have q3' : ((i : Int) == (gap : Int) + (L : Int)) = false := by simp; omega
              go_wp2_with fail
              refine wp_region_cls (C := fun w' => rowAt w' w.heap.size = some (csA v l) ∧ Below w.heap.size w w' ∧ w.heap.size < w'.heap.size) (by kernel_rfl) (by kernel_rfl) HD.out ?_
              repeat (first
                  | go_big_quiet_skip
                  | (go_big_quiet_want
                     first
                       | (refine quiet_index22 _ _ rfl w.heap.size (2 * i) _ rfl rfl (by omega) (by omega) ?_; go_simp; go_big_quiet_on)
                       | (refine quiet_index22 _ _ rfl w.heap.size (2 * i + 1) _ rfl rfl (by omega) (by omega) ?_; go_simp; go_big_quiet_on)
                       | (refine quiet_load5 _ rfl ⟨w.heap.size, 1 + 2 * i, none⟩ rfl (x : Int) (fun w' h => rowAt_bytes h.1 _ _ LX.out) ?_; go_simp; go_big_quiet_on)
                       | (refine quiet_load5 _ rfl ⟨w.heap.size, 1 + (2 * i + 1), none⟩ rfl (y : Int) (fun w' h => rowAt_bytes h.1 _ _ LY.out) ?_; go_simp; go_big_quiet_on)
                       | (go_big_quiet_op; go_big_quiet_on)
                       | (refine quiet_call 37 #[.int .i64 ((x : Int) * 256 + (y : Int)), .int .i64 (least : Int), .bool up] (.string ⟨X.toArray⟩) ?_ HX.out ?_
                          · intro w; go_simp; first | done | rw [kx, k3, ky, k4]
                          go_simp; go_big_quiet_on)
                       | (refine quiet_val ?_ ?_ ?_
                          rotate_left
                          · intro w; go_simp; rfl
                          go_simp; go_big_quiet_on)))
              refine wpQuiet_nil ?_
              intro V hV
              go_wp2_with fail
              go_roundw
              case rel => exact ⟨i + 1, T ++ X, by omega, by go_num, rfl, HN'.out.2, HN'.out.1, hV⟩
              case measure => simp [intOf]; omega
          · rw [if_neg hcol] at HN
            obtain ⟨T, hT⟩ : ∃ T, T = t := ⟨_, rfl⟩
            rw [← hT] at HN cc htl hsz ⊢
            have HN' : Hid (LongAt gs gap L (i + 1) (T ++ X) ∧ (T ++ X).length ≤ 5 * (i + 1)) := Lib.hid ⟨HN.out, by simp; omega⟩
            have cT : ∀ W, (Op.stringOp .add ⟨T.toArray⟩ ⟨X.toArray⟩).run Tryd.prog W = .ok (.string ⟨(T ++ X).toArray⟩) W := fun W => concat_c _ _ (by omega) W
            clear HN hT cc
            have hcase : (¬ 0 < i ∧ i = gap ∧ ¬ 0 < L) ∨ (¬ 0 < i ∧ i ≠ gap) ∨ (0 < i ∧ i ≠ gap ∧ 0 < L ∧ i = gap + L) := by omega
            clear hskip hcol
            rcases hcase with ⟨q0, q1, q2⟩ | ⟨q0, q1⟩ | ⟨q0, q1, q2, q3⟩
            · subst q1
              have q0' : ¬ (0 : Int) < (i : Int) := by omega
              have q2' : ¬ (0 : Int) < (L : Int) := by omega
              go_wp2_with fail
              refine wp_region_cls (C := fun w' => rowAt w' w.heap.size = some (csA v l) ∧ Below w.heap.size w w' ∧ w.heap.size < w'.heap.size) (by kernel_rfl) (by kernel_rfl) HD.out ?_
              repeat (first
                  | go_big_quiet_skip
                  | (go_big_quiet_want
                     first
                       | (refine quiet_index22 _ _ rfl w.heap.size (2 * i) _ rfl rfl (by omega) (by omega) ?_; go_simp; go_big_quiet_on)
                       | (refine quiet_index22 _ _ rfl w.heap.size (2 * i + 1) _ rfl rfl (by omega) (by omega) ?_; go_simp; go_big_quiet_on)
                       | (refine quiet_load5 _ rfl ⟨w.heap.size, 1 + 2 * i, none⟩ rfl (x : Int) (fun w' h => rowAt_bytes h.1 _ _ LX.out) ?_; go_simp; go_big_quiet_on)
                       | (refine quiet_load5 _ rfl ⟨w.heap.size, 1 + (2 * i + 1), none⟩ rfl (y : Int) (fun w' h => rowAt_bytes h.1 _ _ LY.out) ?_; go_simp; go_big_quiet_on)
                       | (go_big_quiet_op; go_big_quiet_on)
                       | (refine quiet_call 37 #[.int .i64 ((x : Int) * 256 + (y : Int)), .int .i64 (least : Int), .bool up] (.string ⟨X.toArray⟩) ?_ HX.out ?_
                          · intro w; go_simp; first | done | rw [kx, k3, ky, k4]
                          go_simp; go_big_quiet_on)
                       | (refine quiet_val ?_ ?_ ?_
                          rotate_left
                          · intro w; go_simp; rfl
                          go_simp; go_big_quiet_on)))
              refine wpQuiet_nil ?_
              intro V hV
              go_wp2_with fail
              go_roundw
              case rel => exact ⟨i + 1, T ++ X, by omega, by go_num, rfl, HN'.out.2, HN'.out.1, hV⟩
              case measure => simp [intOf]; omega
            · have q0' : ¬ (0 : Int) < (i : Int) := by omega
              have q1' : ¬ (i : Int) = (gap : Int) := by omega
              go_wp2_with fail
              refine wp_region_cls (C := fun w' => rowAt w' w.heap.size = some (csA v l) ∧ Below w.heap.size w w' ∧ w.heap.size < w'.heap.size) (by kernel_rfl) (by kernel_rfl) HD.out ?_
              repeat (first
                  | go_big_quiet_skip
                  | (go_big_quiet_want
                     first
                       | (refine quiet_index22 _ _ rfl w.heap.size (2 * i) _ rfl rfl (by omega) (by omega) ?_; go_simp; go_big_quiet_on)
                       | (refine quiet_index22 _ _ rfl w.heap.size (2 * i + 1) _ rfl rfl (by omega) (by omega) ?_; go_simp; go_big_quiet_on)
                       | (refine quiet_load5 _ rfl ⟨w.heap.size, 1 + 2 * i, none⟩ rfl (x : Int) (fun w' h => rowAt_bytes h.1 _ _ LX.out) ?_; go_simp; go_big_quiet_on)
                       | (refine quiet_load5 _ rfl ⟨w.heap.size, 1 + (2 * i + 1), none⟩ rfl (y : Int) (fun w' h => rowAt_bytes h.1 _ _ LY.out) ?_; go_simp; go_big_quiet_on)
                       | (go_big_quiet_op; go_big_quiet_on)
                       | (refine quiet_call 37 #[.int .i64 ((x : Int) * 256 + (y : Int)), .int .i64 (least : Int), .bool up] (.string ⟨X.toArray⟩) ?_ HX.out ?_
                          · intro w; go_simp; first | done | rw [kx, k3, ky, k4]
                          go_simp; go_big_quiet_on)
                       | (refine quiet_val ?_ ?_ ?_
                          rotate_left
                          · intro w; go_simp; rfl
                          go_simp; go_big_quiet_on)))
              refine wpQuiet_nil ?_
              intro V hV
              go_wp2_with fail
              go_roundw
              case rel => exact ⟨i + 1, T ++ X, by omega, by go_num, rfl, HN'.out.2, HN'.out.1, hV⟩
              case measure => simp [intOf]; omega
            · have q0' : (0 : Int) < (i : Int) := by omega
              have q1' : ¬ (i : Int) = (gap : Int) := by omega
              have q2' : (0 : Int) < (L : Int) := by omega
              have q3' : ((i : Int) == (gap : Int) + (L : Int)) = true := by simp; omega
              have Q3 := Lib.hid q3
              clear q3
              go_wp2_with fail
              refine wp_region_cls (C := fun w' => rowAt w' w.heap.size = some (csA v l) ∧ Below w.heap.size w w' ∧ w.heap.size < w'.heap.size) (by kernel_rfl) (by kernel_rfl) HD.out ?_
              repeat (first
                  | go_big_quiet_skip
                  | (go_big_quiet_want
                     first
                       | (refine quiet_index22 _ _ rfl w.heap.size (2 * i) _ rfl rfl (by omega) (by omega) ?_; go_simp; go_big_quiet_on)
                       | (refine quiet_index22 _ _ rfl w.heap.size (2 * i + 1) _ rfl rfl (by omega) (by omega) ?_; go_simp; go_big_quiet_on)
                       | (refine quiet_load5 _ rfl ⟨w.heap.size, 1 + 2 * i, none⟩ rfl (x : Int) (fun w' h => rowAt_bytes h.1 _ _ LX.out) ?_; go_simp; go_big_quiet_on)
                       | (refine quiet_load5 _ rfl ⟨w.heap.size, 1 + (2 * i + 1), none⟩ rfl (y : Int) (fun w' h => rowAt_bytes h.1 _ _ LY.out) ?_; go_simp; go_big_quiet_on)
                       | (go_big_quiet_op; go_big_quiet_on)
                       | (refine quiet_call 37 #[.int .i64 ((x : Int) * 256 + (y : Int)), .int .i64 (least : Int), .bool up] (.string ⟨X.toArray⟩) ?_ HX.out ?_
                          · intro w; go_simp; first | done | rw [kx, k3, ky, k4]
                          go_simp; go_big_quiet_on)
                       | (refine quiet_val ?_ ?_ ?_
                          rotate_left
                          · intro w; go_simp; rfl
                          go_simp; go_big_quiet_on)))
              refine wpQuiet_nil ?_
              intro V hV
              go_wp2_with fail
              go_roundw
              case rel => exact ⟨i + 1, T ++ X, by omega, by go_num, rfl, HN'.out.2, HN'.out.1, hV⟩
              case measure => simp [intOf]; omega
      · obtain rfl : i = 8 := by omega
        go_wp2_with fail
        go_ret
        exact ⟨t, rfl, by rw [HAT.out.done HGL.out hgap hL8 HZ.out, HUN.out], by omega, HRW.out.2.1⟩
#print axioms long_c
end Go.Proofs.YtclfhajapohogaaDoor
