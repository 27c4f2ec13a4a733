/-
  For AddrAsks: the document's run, some.
-/
import Derived.Test.YtclfhajapohogaaDoorAsT
import Derived.Deep.Cut
namespace Go.Proofs.YtclfhajapohogaaDoor
open Go.ChangeShapes Go.WideShapes Go.ChangeAt Go.RowKit
set_option linter.unusedVariables false
set_option maxHeartbeats 4000000
set_option maxRecDepth 100000

def hxx (n : Nat) : List UInt8 := hx n
theorem hxx_len (n : Nat) : (hxx n).length ≤ 4 := by
  unfold hxx hx; rw [low_length]; unfold nd; split; omega; split; omega; split <;> omega
theorem printG_snoc (l : List Nat) (g : Nat) : printG (l ++ [g]) = printG l ++ ((if l = [] then [] else [58]) ++ hx g) := by
  unfold printG
  rcases l with _ | ⟨a, r⟩
  · simp [Lib.join_one, Lib.join_nil]
  · rw [List.cons_append, List.map_cons, List.map_cons, Lib.join_cons, Lib.join_cons, if_neg (by simp), List.map_append]
    simp [Lib.joinTail, List.append_assoc]
/-- Bytes and groups of an address. -/
theorem grp_get {l : List Int} (hl : l.length = 16) (hb : ∀ x ∈ l, 0 ≤ x ∧ x ≤ 255) (k : Nat) (hk : k < 8) : ∃ x y : Nat, x < 256 ∧ y < 256 ∧ l[2 * k]? = some (x : Int) ∧ l[2 * k + 1]? = some (y : Int) ∧ (grpOf l)[k]? = some (x * 256 + y) := by
  obtain ⟨x, hx⟩ : ∃ x, l[2 * k]? = some x := ⟨_, List.getElem?_eq_getElem (by omega)⟩
  obtain ⟨y, hy⟩ : ∃ y, l[2 * k + 1]? = some y := ⟨_, List.getElem?_eq_getElem (by omega)⟩
  have h1 := hb x (List.mem_of_getElem? hx)
  have h2 := hb y (List.mem_of_getElem? hy)
  refine ⟨x.toNat, y.toNat, by omega, by omega, ?_, ?_, ?_⟩
  · rw [hx]; congr 1; omega
  · rw [hy]; congr 1; omega
  · exact grpOf_get l k x y hx hy
theorem rrun_c (v : Int) (l : List Int) (hl : l.length = 16) (hb : ∀ x ∈ l, 0 ≤ x ∧ x ≤ 255) (i : Nat) (hi : i ≤ 8) (w : World) :
    Calls Tryd.prog 44 #[.agg (csA v l), .int .i64 (i : Int)] w fun e w' => e = .returned (.int .i64 (runP (grpOf l) i : Int)) ∧ Below w.heap.size w w' := by
  obtain ⟨cs, hcs⟩ : ∃ c, c = csA v l := ⟨_, rfl⟩
  have hgl := grpOf_length hl
  have HGET := Lib.hid (grp_get hl hb)
  obtain ⟨gs, hgs⟩ : ∃ gs, gs = grpOf l := ⟨_, rfl⟩
  rw [← hgs] at HGET hgl ⊢
  have HGL := Lib.hid hgl
  obtain ⟨r, hr⟩ : ∃ r, r = runP gs i := ⟨_, rfl⟩
  rw [← hr]
  have HR := Lib.hid hr
  rw [← hcs]
  have HROW : Hid (rowAt (w.alloc (.cells cs 24)) w.heap.size = some (csA v l) ∧ Below w.heap.size w (w.alloc (.cells cs 24))) := Lib.hid (by
    refine ⟨by rw [← hcs]; exact rowAt_new w cs 24 (by rw [hcs]; exact csA_size hl), (Below.refl _ _).alloc (Nat.le_refl _) _⟩)
  clear hgl hgs hcs hb hr
  go_enter Tryd.func44, Tryd.ntmps44
  go_upto_region 1 with fail
  generalize w.alloc (.cells cs 24) = W at *
  obtain ⟨g, hg⟩ : ∃ g, g = w.heap.size := ⟨_, rfl⟩
  have HBW := Lib.hid HROW.out.2
  have HRO := Lib.hid HROW.out.1
  rw [← hg] at HRO ⊢
  clear HROW hg
  go_wp2_with fail
  go_loopw [5] (fun nv wr => ∃ k : Nat, nv = .int .i64 (k : Int) ∧ i + k ≤ 8 ∧ Hid (∀ j, j < k → gs[i + j]? = some 0) ∧ wr = W) (fun nv _ => 8 - (intOf nv).toNat)
  case atStart => exact ⟨0, rfl, by omega, Lib.hid (fun j hj => by omega), rfl⟩
  case round =>
    obtain ⟨k, rfl, hk8, HZ, hW⟩ := hrel
    subst hW
    by_cases hA : i + k < 8
    · obtain ⟨x, y, hx, hy, lx, ly, hgx⟩ := HGET.out (i + k) hA
      have c1 := rowAt_bytes HRO.out _ _ lx
      have c2 := rowAt_bytes HRO.out _ _ ly
      have a1 : (i : Int) + (k : Int) < 8 := by omega
      have b5 : (2 * ((i : Int) + (k : Int))).toNat = 2 * (i + k) := by omega
      have b6 : (2 * ((i : Int) + (k : Int)) + 1).toNat = 2 * (i + k) + 1 := by omega
      have HG := Lib.hid hgx
      clear hgx lx ly
      by_cases hx0 : x = 0
      · have hx0' : (x : Int) = 0 := by omega
        by_cases hy0 : y = 0
        · have hy0' : (y : Int) = 0 := by omega
          have HZ' : Hid (∀ j, j < k + 1 → gs[i + j]? = some 0) := Lib.hid (fun j h2 => by
            rcases Nat.lt_or_ge j k with h | h
            · exact HZ.out j h
            · obtain rfl : j = k := by omega
              rw [HG.out, hx0, hy0])
          go_wp2_with fail
          go_roundw
          case rel => exact ⟨k + 1, by go_num, by omega, HZ', by trivial⟩
          case measure => simp [intOf]; omega
        · have hy0' : ¬ (y : Int) = 0 := by omega
          have HE : Hid (r = k) := Lib.hid (by rw [HR.out]; exact run_at HZ.out (fun z hz => by rw [HG.out] at hz; simp at hz; omega))
          obtain rfl := HE.out
          clear HE HR
          go_wp2_with fail
          go_ret
          exact ⟨rfl, HBW.out⟩
      · have hx0' : ¬ (x : Int) = 0 := by omega
        have HE : Hid (r = k) := Lib.hid (by rw [HR.out]; exact run_at HZ.out (fun z hz => by rw [HG.out] at hz; simp at hz; omega))
        obtain rfl := HE.out
        clear HE HR
        go_wp2_with fail
        go_ret
        exact ⟨rfl, HBW.out⟩
    · have a1 : ¬ (i : Int) + (k : Int) < 8 := by omega
      have HE : Hid (r = k) := Lib.hid (by rw [HR.out]; exact run_at HZ.out (fun z hz => by rw [List.getElem?_eq_none (by have := HGL.out; omega)] at hz; simp at hz))
      obtain rfl := HE.out
      clear HE HR
      go_wp2_with fail
      go_ret
      exact ⟨rfl, HBW.out⟩
theorem rsome_c (v : Int) (l : List Int) (hl : l.length = 16) (hb : ∀ x ∈ l, 0 ≤ x ∧ x ≤ 255) (f t : Nat) (hft : f ≤ t) (ht : t ≤ 8) (w : World) :
    Calls Tryd.prog 45 #[.agg (csA v l), .int .i64 (f : Int), .int .i64 (t : Int)] w fun e w' => e = .returned (.string ⟨(printG (((grpOf l).drop f).take (t - f))).toArray⟩) ∧ Below w.heap.size w w' := by
  obtain ⟨cs, hcs⟩ : ∃ c, c = csA v l := ⟨_, rfl⟩
  have hgl := grpOf_length hl
  have HGET := Lib.hid (grp_get hl hb)
  obtain ⟨gs, hgs⟩ : ∃ gs, gs = grpOf l := ⟨_, rfl⟩
  rw [← hgs] at HGET hgl ⊢
  have HGL := Lib.hid hgl
  rw [← hcs]
  have HROW : Hid (rowAt (w.alloc (.cells cs 24)) w.heap.size = some (csA v l) ∧ Below w.heap.size w (w.alloc (.cells cs 24)) ∧ w.heap.size < (w.alloc (.cells cs 24)).heap.size) := Lib.hid (by
    refine ⟨by rw [← hcs]; exact rowAt_new w cs 24 (by rw [hcs]; exact csA_size hl), (Below.refl _ _).alloc (Nat.le_refl _) _, by simp⟩)
  obtain ⟨r, hr⟩ : ∃ r, r = printG ((gs.drop f).take (t - f)) := ⟨_, rfl⟩
  rw [← hr]
  have HR := Lib.hid hr
  clear hgl hgs hcs hb hr
  go_enter Tryd.func45, Tryd.ntmps45
  go_upto_region 1 with fail
  generalize w.alloc (.cells cs 24) = W at *
  go_wp2_with fail
  go_loopw [7, 8] (fun sv iv wr => ∃ (i : Nat) (u : List UInt8), f ≤ i ∧ i ≤ t ∧ iv = .int .i64 (i : Int) ∧ sv = .string ⟨u.toArray⟩ ∧ u.length ≤ 6 * i ∧ Hid (u = printG ((gs.drop f).take (i - f))) ∧ rowAt wr w.heap.size = some (csA v l) ∧ Below w.heap.size w wr ∧ w.heap.size < wr.heap.size) (fun _ iv _ => 8 - (intOf iv).toNat)
  case atStart => exact ⟨f, [], by omega, hft, rfl, rfl, by simp, Lib.hid (by rw [Nat.sub_self]; rfl), HROW.out⟩
  case round =>
    obtain ⟨i, u, hfi, hit, rfl, rfl, hul, HU, hR⟩ := hrel
    have HRW := Lib.hid hR
    clear hR HROW
    have hsz := bsize u
    by_cases h8 : i < t
    · obtain ⟨x, y, hx, hy, lx, ly, hgx⟩ := HGET.out i (by omega)
      have a0 : (i : Int) < (t : Int) := by omega
      have b5 : (2 * (i : Int)).toNat = 2 * i := by omega
      have b6 : (2 * (i : Int) + 1).toNat = 2 * i + 1 := by omega
      have LX := Lib.hid lx
      have LY := Lib.hid ly
      have hgn : x * 256 + y < 65536 := by omega
      obtain ⟨X, hX⟩ : ∃ X, X = hxx (x * 256 + y) := ⟨_, rfl⟩
      have hXl : X.length ≤ 4 := by rw [hX]; exact hxx_len _
      have HNEXT : Hid (printG ((gs.drop f).take (i + 1 - f)) = u ++ ((if i = f then [] else [58]) ++ X)) := Lib.hid (by
        have e : (gs.drop f)[i - f]? = some (x * 256 + y) := by rw [List.getElem?_drop, show f + (i - f) = i from by omega]; exact hgx
        rw [show i + 1 - f = i - f + 1 from by omega, List.take_add_one, e, Option.toList_some, printG_snoc, ← HU.out, hX]
        have hlen : ((gs.drop f).take (i - f)).length = i - f := by rw [List.length_take, List.length_drop, HGL.out]; omega
        by_cases h : i = f
        · rw [if_pos h, if_pos (List.eq_nil_of_length_eq_zero (by rw [hlen]; omega))]; rfl
        · rw [if_neg h, if_neg (fun hc => by rw [hc] at hlen; simp at hlen; omega)]; rfl)
      have HX : Hid (∀ W, (rowAt W w.heap.size = some (csA v l) ∧ Below w.heap.size w W ∧ w.heap.size < W.heap.size) → Calls Tryd.prog 43 #[.int .i64 ((x : Int) * 256 + (y : Int)), .int .i64 16] W fun e w' => e = .returned (.string ⟨X.toArray⟩) ∧ rowAt w' w.heap.size = some (csA v l) ∧ Below w.heap.size w w' ∧ w.heap.size < w'.heap.size) := Lib.hid (fun W h0 => by
        have := hx_text (x * 256 + y) hgn W
        rw [hX, show (x : Int) * 256 + (y : Int) = ((x * 256 + y : Nat) : Int) from by omega]
        refine this.mono ?_
        rintro e w2 ⟨he, h2⟩
        have hs := h2.size
        exact ⟨he, rowAt_below h0.1 h2 h0.2.2, h0.2.1.trans (h2.mono (by omega)), by omega⟩)
      have HD : Hid (rowAt wr.drew w.heap.size = some (csA v l) ∧ Below w.heap.size w wr.drew ∧ w.heap.size < wr.drew.heap.size) := Lib.hid ⟨HRW.out.1, HRW.out.2.1.drew, HRW.out.2.2⟩
      have k1 : IntKind.i64.wrap (2 * (i : Int)) = 2 * (i : Int) := by simp [IntKind.wrap, IntKind.bits, IntKind.signed]; omega
      have k2 : IntKind.i64.wrap (2 * (i : Int) + 1) = 2 * (i : Int) + 1 := by simp [IntKind.wrap, IntKind.bits, IntKind.signed]; omega
      have kx : IntKind.i64.wrap (x : Int) = (x : Int) := by simp [IntKind.wrap, IntKind.bits, IntKind.signed]; omega
      have ky : IntKind.i64.wrap (y : Int) = (y : Int) := by simp [IntKind.wrap, IntKind.bits, IntKind.signed]; omega
      have k3 : IntKind.i64.wrap ((x : Int) * 256) = (x : Int) * 256 := by simp [IntKind.wrap, IntKind.bits, IntKind.signed]; omega
      have k4 : IntKind.i64.wrap ((x : Int) * 256 + (y : Int)) = (x : Int) * 256 + (y : Int) := by simp [IntKind.wrap, IntKind.bits, IntKind.signed]; omega
      clear hX lx ly hgx HRW
      by_cases hif : i = f
      · have HN2 : Hid (u ++ X = printG ((gs.drop f).take (i + 1 - f)) ∧ (u ++ X).length ≤ 6 * (i + 1)) := Lib.hid ⟨by rw [HNEXT.out, if_pos hif]; rfl, by simp; omega⟩
        have cT : ∀ W, (Op.stringOp .add ⟨u.toArray⟩ ⟨X.toArray⟩).run Tryd.prog W = .ok (.string ⟨(u ++ X).toArray⟩) W := fun W => concat_c _ _ (by omega) W
        have p1 : decide ((f : Int) < (i : Int)) = false := decide_eq_false (by omega)
        have p2 : decide (f < i) = false := decide_eq_false (by omega)
        have HIF := Lib.hid hif
        clear HNEXT HU hif
        go_wp2_with fail
        refine wp_region_cls (C := fun w' => rowAt w' w.heap.size = some (csA v l) ∧ Below w.heap.size w w' ∧ w.heap.size < w'.heap.size) (by kernel_rfl) (by kernel_rfl) HD.out ?_
        repeat (first
            | go_big_quiet_skip
            | (go_big_quiet_want
               first
                 | (refine quiet_index22 _ _ rfl w.heap.size (2 * i) _ rfl rfl (by omega) (by omega) ?_; go_simp; go_big_quiet_on)
                 | (refine quiet_index22 _ _ rfl w.heap.size (2 * i + 1) _ rfl rfl (by omega) (by omega) ?_; go_simp; go_big_quiet_on)
                 | (refine quiet_load5 _ rfl ⟨w.heap.size, 1 + 2 * i, none⟩ rfl (x : Int) (fun w' h => rowAt_bytes h.1 _ _ LX.out) ?_; go_simp; go_big_quiet_on)
                 | (refine quiet_load5 _ rfl ⟨w.heap.size, 1 + (2 * i + 1), none⟩ rfl (y : Int) (fun w' h => rowAt_bytes h.1 _ _ LY.out) ?_; go_simp; go_big_quiet_on)
                 | (go_big_quiet_op; go_big_quiet_on)
                 | (refine quiet_call 43 #[.int .i64 ((x : Int) * 256 + (y : Int)), .int .i64 16] (.string ⟨X.toArray⟩) ?_ HX.out ?_
                    · intro w; go_simp; first | done | rw [kx, k3, ky, k4]
                    go_simp; go_big_quiet_on)
                 | (refine quiet_val ?_ ?_ ?_
                    rotate_left
                    · intro w; go_simp; rfl
                    go_simp; go_big_quiet_on)))
        refine wpQuiet_nil ?_
        intro V hV
        go_wp2_with fail
        go_roundw
        case rel => exact ⟨i + 1, u ++ X, by omega, by omega, by go_num, rfl, HN2.out.2, Lib.hid HN2.out.1, hV⟩
        case measure => simp [intOf]; omega
      · obtain ⟨T, hT⟩ : ∃ T, T = u ++ [58] := ⟨_, rfl⟩
        have HN2 : Hid (T ++ X = printG ((gs.drop f).take (i + 1 - f)) ∧ (T ++ X).length ≤ 6 * (i + 1)) := Lib.hid ⟨by rw [HNEXT.out, if_neg hif, hT]; simp, by rw [hT]; simp; omega⟩
        have cc : ∀ W, (Op.stringOp .add ⟨u.toArray⟩ ⟨#[58]⟩).run Tryd.prog W = .ok (.string ⟨T.toArray⟩) W := fun W => by rw [hT]; exact concat_c _ _ (by simp; omega) W
        have cT : ∀ W, (Op.stringOp .add ⟨T.toArray⟩ ⟨X.toArray⟩).run Tryd.prog W = .ok (.string ⟨(T ++ X).toArray⟩) W := fun W => concat_c _ _ (by rw [hT]; simp; omega) W
        have p1 : decide ((f : Int) < (i : Int)) = true := decide_eq_true (by omega)
        have p2 : decide (f < i) = true := decide_eq_true (by omega)
        clear HNEXT HU hT hif
        go_wp2_with fail
        refine wp_region_cls (C := fun w' => rowAt w' w.heap.size = some (csA v l) ∧ Below w.heap.size w w' ∧ w.heap.size < w'.heap.size) (by kernel_rfl) (by kernel_rfl) HD.out ?_
        repeat (first
            | go_big_quiet_skip
            | (go_big_quiet_want
               first
                 | (refine quiet_index22 _ _ rfl w.heap.size (2 * i) _ rfl rfl (by omega) (by omega) ?_; go_simp; go_big_quiet_on)
                 | (refine quiet_index22 _ _ rfl w.heap.size (2 * i + 1) _ rfl rfl (by omega) (by omega) ?_; go_simp; go_big_quiet_on)
                 | (refine quiet_load5 _ rfl ⟨w.heap.size, 1 + 2 * i, none⟩ rfl (x : Int) (fun w' h => rowAt_bytes h.1 _ _ LX.out) ?_; go_simp; go_big_quiet_on)
                 | (refine quiet_load5 _ rfl ⟨w.heap.size, 1 + (2 * i + 1), none⟩ rfl (y : Int) (fun w' h => rowAt_bytes h.1 _ _ LY.out) ?_; go_simp; go_big_quiet_on)
                 | (go_big_quiet_op; go_big_quiet_on)
                 | (refine quiet_call 43 #[.int .i64 ((x : Int) * 256 + (y : Int)), .int .i64 16] (.string ⟨X.toArray⟩) ?_ HX.out ?_
                    · intro w; go_simp; first | done | rw [kx, k3, ky, k4]
                    go_simp; go_big_quiet_on)
                 | (refine quiet_val ?_ ?_ ?_
                    rotate_left
                    · intro w; go_simp; rfl
                    go_simp; go_big_quiet_on)))
        refine wpQuiet_nil ?_
        intro V hV
        go_wp2_with fail
        go_roundw
        case rel => exact ⟨i + 1, T ++ X, by omega, by omega, by go_num, rfl, HN2.out.2, Lib.hid HN2.out.1, hV⟩
        case measure => simp [intOf]; omega
    · have a0 : ¬ (i : Int) < (t : Int) := by omega
      have a1 : decide ((i : Int) < (t : Int)) = false := decide_eq_false a0
      have a2 : decide (i < t) = false := decide_eq_false (by omega)
      have HE : Hid (r = u) := Lib.hid (by rw [HR.out, HU.out, show i = t from by omega])
      obtain rfl := HE.out
      clear HE HR HU
      go_wp2_with fail
      go_ret
      exact ⟨rfl, HRW.out.2.1⟩
#print axioms rsome_c
end Go.Proofs.YtclfhajapohogaaDoor
