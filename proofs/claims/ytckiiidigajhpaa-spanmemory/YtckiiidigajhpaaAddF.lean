/-
  Add.
-/
import Derived.Test.YtckiiidigajhpaaNrm
namespace Go.Proofs.Ytckiiidigajhpaa
open Go.ChangeShapes Go.WideShapes Go.ChangeAt Go.RowKit
set_option linter.unusedVariables false

theorem size29 (wx : World) : (sizeOf (Try.prog.elem 22)).run Try.prog wx = .ok 2 wx := by kernel_rfl
theorem under22 : Try.prog.underlying 22 = some (.slice (Try.prog.elem 22)) := by kernel_rfl
theorem slice_l (a A : Option Addr) (len cap k : Nat) (lo : Int) (hA : A = if cap = k then a else a.map (·.add (k * 2))) (hlo : lo = k) (hm : k ≤ len) (wx : World) :
    (Instr.sliceAt 22 (.slice a len cap) (some (.int .i64 lo)) none none).run Try.prog wx = .ok (.slice A (len - k) (cap - k)) wx := by
  subst hlo; subst hA
  rw [run_sliceAt_slice (h := under22), run_slice_l (ht := under22) (h0 := by omega) (h1 := by omega), size29]
  simp only [Result.andThen, sliced]
  rw [show (k : Int).toNat = k from by omega]
theorem slice_h (a : Option Addr) (len cap m : Nat) (hi : Int) (hhi : hi = m) (hm : m ≤ cap) (wx : World) :
    (Instr.sliceAt 22 (.slice a len cap) none (some (.int .i64 hi)) none).run Try.prog wx = .ok (.slice a m cap) wx := by
  subst hhi
  rw [run_sliceAt_slice (h := under22), run_slice_h (ht := under22) (h0 := by omega) (h2 := by omega), size29]
  simp only [Result.andThen, sliced]
  have e : a.map (·.add (0 * 2)) = a := by cases a <;> simp [add_zero]
  rw [show (m : Int).toNat = m from by omega, e, ite_self, Nat.sub_zero, Nat.sub_zero]
theorem ahead_at {l : List Sp} {k : Nat} {x : Sp} (f : Int) (h : l[k]? = some x) (hx : x.2 < f) (hq : aheadP f l = l.take k ++ aheadP f (l.drop k)) : aheadP f l = l.take (k + 1) ++ aheadP f (l.drop (k + 1)) := by
  rw [hq, take_snoc h, drop_at h]
  unfold aheadP
  rw [List.takeWhile_cons_of_pos (by simpa using hx)]
  simp
theorem behind_at {l : List Sp} {k : Nat} {x : Sp} (f : Int) (h : l[k]? = some x) (hx : x.2 < f) : behindP f (l.drop k) = behindP f (l.drop (k + 1)) := by
  rw [drop_at h]
  unfold behindP
  rw [List.dropWhile_cons_of_pos (by simpa using hx)]
theorem stop_at {l : List Sp} {k : Nat} {x : Sp} (f : Int) (h : l[k]? = some x) (hx : ¬ x.2 < f) : aheadP f (l.drop k) = [] ∧ behindP f (l.drop k) = l.drop k := by
  rw [drop_at h]
  unfold aheadP behindP
  rw [List.takeWhile_cons_of_neg (by simpa using hx), List.dropWhile_cons_of_neg (by simpa using hx)]
  exact ⟨rfl, rfl⟩
theorem merge_at {l : List Sp} {k : Nat} {x s : Sp} (h : l[k]? = some x) (hx : x.1 ≤ s.2) : mergeP s (l.drop k) = mergeP (min s.1 x.1, max s.2 x.2) (l.drop (k + 1)) := by
  rw [drop_at h]
  conv => lhs; unfold mergeP
  rw [if_pos hx]
theorem merge_stop {l : List Sp} {k : Nat} {x s : Sp} (h : l[k]? = some x) (hx : ¬ x.1 ≤ s.2) : mergeP s (l.drop k) = (s, l.drop k) := by
  rw [drop_at h]
  conv => lhs; unfold mergeP
  rw [if_neg hx]
/-- The box of a span. -/
def BoxS (w : World) (B : Nat) (s : Sp) : Prop := w.heap[B]? = some (.cells #[.int .i64 s.1, .int .i64 s.2] 29 (0, 0))
theorem BoxS.c0 {w : World} {B : Nat} {s : Sp} (h : BoxS w B s) : w.cell? ⟨B, 0, none⟩ = some (.int .i64 s.1) := by rw [cell_of_block h]; rfl
theorem BoxS.c1 {w : World} {B : Nat} {s : Sp} (h : BoxS w B s) : w.cell? ⟨B, 1, none⟩ = some (.int .i64 s.2) := by rw [cell_of_block h]; rfl
theorem BoxS.free {w : World} {B : Nat} {s : Sp} (h : BoxS w B s) (i : Nat) : w.frozen? ⟨B, i, none⟩ = false := free_of_block h i
theorem BoxS.on {S : List Nat} {w w' : World} {B : Nat} {s : Sp} (h : BoxS w B s) (hw : Away S w w') (hS : B ∉ S) : BoxS w' B s := hw.keep hS h
theorem BoxS.set {w : World} {B : Nat} {s : Sp} (h : BoxS w B s) (u v : Int) : BoxS ((w.setCell ⟨B, 0, none⟩ (.int .i64 u)).setCell ⟨B, 1, none⟩ (.int .i64 v)) B (u, v) := by
  have h1 := block_set h 0 (.int .i64 u)
  have h2 := block_set h1 1 (.int .i64 v)
  exact h2
theorem BoxS.setr {w : World} {B : Nat} {s : Sp} (h : BoxS w B s) (u v : Int) : BoxS ((w.setCell ⟨B, 1, none⟩ (.int .i64 v)).setCell ⟨B, 0, none⟩ (.int .i64 u)) B (u, v) := by
  have h1 := block_set h 1 (.int .i64 v)
  have h2 := block_set h1 0 (.int .i64 u)
  exact h2
set_option maxHeartbeats 16000000 in
theorem add_c (a : Option Addr) (l : List Sp) (s : Sp) (n cap : Nat) (w : World) (hn : l.length = n) (hcap : n ≤ cap) (hnil : a = none → cap = 0) (hold : ∀ p, a = some p → p.block < w.heap.size) (hr : Row w a l) :
    Calls Try.prog 13 #[.slice a n cap, valS s] w fun E w' => Ans w (rightP l && isB s) (addP l s) E w' := by
  subst hn
  have hlen := hr.1
  have HR : Hid (Row w a l) := hr
  have HN : Hid (a = none → cap = 0) := hnil
  have HAL : Hid (∀ p, a = some p → p.block < w.heap.size) := hold
  clear hr hnil hold
  obtain ⟨s1, s2⟩ := s
  simp only [valS]
  cases hb : rightP l
  · go_enter Try.func13, Try.ntmps13
    go_wp2_with fail
    refine (right_c a l _ _ _ rfl (by exact HR.out.on ((Away.refl [] w).alloc _))).mono ?_
    rintro E w2 ⟨rfl, haw2⟩
    rw [hb]
    have haw3 : Away [] w w2 := ((Away.refl [] w).alloc _).trans haw2
    clear haw2
    go_wp2_with fail
    go_ret2
    exact Ans.no haw3
  · have hshort := right_short hb
    have HBX0 : Hid (BoxS (w.alloc (.cells #[.int .i64 s1, .int .i64 s2] 29)) w.heap.size (s1, s2)) := block_new _ _
    go_enter Try.func13, Try.ntmps13
    go_wp2_with fail
    refine (right_c a l _ _ _ rfl (by exact HR.out.on ((Away.refl [] w).alloc _))).mono ?_
    rintro E w2 ⟨rfl, haw2⟩
    rw [hb]
    have k1 : w2.cell? ⟨w.heap.size, 0, none⟩ = some (.int .i64 s1) := haw2.cell (by simp) (by simp)
    have k2 : w2.cell? ⟨w.heap.size, 1, none⟩ = some (.int .i64 s2) := haw2.cell (by simp) (by simp)
    replace HBX0 := hidI (HBX0.out.on haw2 (by simp))
    have haw3 : Away [] w w2 := ((Away.refl [] w).alloc _).trans haw2
    clear haw2
    go_wp2_with fail
    refine (isSpan_c (s1, s2) _).mono ?_
    rintro E w1 ⟨rfl, haw4⟩
    have haw : Away [] w w1 := haw3.trans haw4
    replace HBX0 := hidI (HBX0.out.on haw4 (by simp))
    clear haw3 haw4 k1 k2
    cases hs : isB (s1, s2)
    · go_wp2_with fail
      go_ret2
      exact (show Ans w (true && isB (s1, s2)) _ _ _ by rw [hs]; exact Ans.no haw)
    · have HS : Hid (isB (s1, s2) = true) := hs
      clear hs
      have HAWL : Hid (Away [] w w1) := haw
      clear haw
      go_wp2_with fail
      go_loopw [6] (fun i wr => ∃ k : Nat, k ≤ l.length ∧ i = .int .i64 (k : Int) ∧ Away [] w wr ∧ BoxS wr w.heap.size (s1, s2) ∧ aheadP s1 l = l.take k ++ aheadP s1 (l.drop k) ∧ behindP s1 l = behindP s1 (l.drop k)) (fun i _ => l.length - (intOf i).toNat)
      case atStart => exact ⟨0, by omega, rfl, HAWL.out, HBX0.out, rfl, rfl⟩
      case round =>
        obtain ⟨k, hk, rfl, haw, hbx, hq1, hq2⟩ := hrel
        have HQ1 : Hid (aheadP s1 l = l.take k ++ aheadP s1 (l.drop k)) := hq1
        have HQ2 : Hid (behindP s1 l = behindP s1 (l.drop k)) := hq2
        have HBX1 : Hid (BoxS wr w.heap.size (s1, s2)) := hbx
        have HRW : Hid (Row wr a l) := HR.out.on haw
        have HAW1 : Hid (Away [] w wr) := haw
        have y1 := hbx.c0
        have y2 := hbx.c1
        simp only at y1 y2
        clear hq1 hq2 hbx haw HBX0
        by_cases hlt : k < l.length
        · obtain ⟨x, hx, _⟩ := get_of hlt
          obtain ⟨b, off, hbo, c1, c2, -⟩ := HRW.out.at hx
          subst hbo
          have t1 : decide ((k : Int) < (l.length : Int)) = true := by simp; omega
          have t2 : 0 ≤ (k : Int) := by omega
          have t3 : (k : Int) < (l.length : Int) := by omega
          have t4 : ((k : Int)).toNat = k := by omega
          have HA1 := hidI (fun h => ahead_at s1 hx h HQ1.out)
          have HA2 := hidI (fun h => behind_at s1 hx h)
          have HA3 := hidI (fun h => stop_at s1 hx h)
          clear hx
          obtain ⟨x1, x2⟩ := x
          simp only at c1 c2 HA1 HA2 HA3
          by_cases hc : x2 < s1
          · have d1 : decide (x2 < s1) = true := by simp [hc]
            go_wp2_with fail
            go_quiet (fail)
            go_wp2_with fail
            go_roundw
            case rel => exact ⟨k + 1, by omega, by go_num, HAW1.out.drewN nq, HBX1.out.on ((Away.refl [] wr).drewN nq) (by simp), HA1.out hc, by rw [HQ2.out, HA2.out hc]⟩
            case measure => simp [intOf]; omega
          · have d1 : decide (x2 < s1) = false := by simp [hc]
            have HAH : Hid (aheadP s1 l = l.take k) := by show _ = _; rw [HQ1.out, (HA3.out hc).1]; simp
            have HBH : Hid (behindP s1 l = l.drop k) := by show _ = _; rw [HQ2.out, (HA3.out hc).2]
            clear HA1 HA2 HA3
            go_wp2_with fail
            go_quiet (fail)
            replace HBX1 := hidI (HBX1.out.on ((Away.refl [] wr).drewN nq) (by simp))
            replace HAW1 := hidI (HAW1.out.drewN nq)
            replace HRW := hidI (HRW.out.drewN nq)
            clear y1 y2 c1 c2 t1 t2 t3 t4
            generalize wr.drewN nq = W1 at *
            go_wp2_with fail
            have HW1 : Hid (BoxS W1 w.heap.size (s1, s2)) := HBX1.out
            go_loopw [7] (fun i wr => ∃ (j : Nat) (t1 t2 : Int), k ≤ j ∧ j ≤ l.length ∧ i = .int .i64 (j : Int) ∧ BoxS wr w.heap.size (t1, t2) ∧ Away [w.heap.size] W1 wr ∧ mergeP (s1, s2) (behindP s1 l) = mergeP (t1, t2) (l.drop j)) (fun i _ => l.length - (intOf i).toNat)
            case atStart => exact ⟨k, s1, s2, by omega, by omega, rfl, HW1.out, Away.refl _ _, by rw [HBH.out]⟩
            case round =>
              obtain ⟨j, t1, t2, hkj, hj, rfl, hbx, haw2, hmg⟩ := hrel
              have HMG : Hid (mergeP (s1, s2) (behindP s1 l) = mergeP (t1, t2) (l.drop j)) := hmg
              have HBX : Hid (BoxS wr w.heap.size (t1, t2)) := hbx
              have HAW : Hid (Away [w.heap.size] W1 wr) := haw2
              have y1 := hbx.c0
              have y2 := hbx.c1
              simp only at y1 y2
              have HRJ : Hid (Row wr (some ⟨b, off, none⟩) l) := HRW.out.away haw2 (fun p hp => by have := HAL.out p hp; simp; omega)
              clear hmg hbx haw2
              by_cases hjl : j < l.length
              · obtain ⟨y, hy, _⟩ := get_of hjl
                obtain ⟨b2, off2, hbo, c3, c4, -⟩ := HRJ.out.at hy
                have t1' : decide ((j : Int) < (l.length : Int)) = true := by simp; omega
                have t2' : 0 ≤ (j : Int) := by omega
                have t3' : (j : Int) < (l.length : Int) := by omega
                have t4' : ((j : Int)).toNat = j := by omega
                simp only [Option.some.injEq, Addr.mk.injEq] at hbo
                obtain ⟨rfl, rfl, -⟩ := hbo
                have HMA : Hid (y.1 ≤ t2 → mergeP (t1, t2) (l.drop j) = mergeP (min t1 y.1, max t2 y.2) (l.drop (j + 1))) := fun h => merge_at hy h
                obtain ⟨p1, p2⟩ := y
                simp only at c3 c4 HMA
                by_cases hle : p1 ≤ t2
                · have d3 : decide (p1 ≤ t2) = true := by simp [hle]
                  replace HMA := hidI (HMA.out hle)
                  clear hy
                  rcases (show (min t1 p1 = t1 ∧ t1 ≤ p1) ∨ (min t1 p1 = p1 ∧ p1 < t1) by omega) with ⟨e1, o1⟩ | ⟨e1, o1⟩
                  · rcases (show (max t2 p2 = t2 ∧ p2 ≤ t2) ∨ (max t2 p2 = p2 ∧ t2 < p2) by omega) with ⟨e2, o2⟩ | ⟨e2, o2⟩
                    · go_wp2_with fail
                      go_quiet (fail)
                      have HBX2 := hidI (HBX.out.on ((Away.refl [] wr).drewN nq) (by simp))
                      have HAW2 := hidI (HAW.out.drewN nq)
                      have z1 := HBX2.out.c0
                      have z2 := HBX2.out.c1
                      have z3 := HBX2.out.free 0
                      have z4 := HBX2.out.free 1
                      replace c3 := ((Away.refl [] wr).drewN nq).cell (by simp) c3
                      replace c4 := ((Away.refl [] wr).drewN nq).cell (by simp) c4
                      generalize wr.drewN nq = W2 at *
                      simp only at z1 z2
                      go_wp2_with fail
                      go_region
                      all_goals (go_wp2_with fail; go_roundw)
                      case rel => exact ⟨j + 1, t1, t2, by omega, by omega, by go_num, (HBX2.out.on ((Away.refl [] _).drewN 1) (by simp)).set t1 t2, ((HAW2.out.drewN 1).setCell (.inl (by simp)) _).setCell (.inl (by simp)) _, by rw [HMG.out, HMA.out, e1, e2]⟩
                      case measure => simp [intOf]; omega
                    · go_wp2_with fail
                      go_quiet (fail)
                      have HBX2 := hidI (HBX.out.on ((Away.refl [] wr).drewN nq) (by simp))
                      have HAW2 := hidI (HAW.out.drewN nq)
                      have z1 := HBX2.out.c0
                      have z2 := HBX2.out.c1
                      have z3 := HBX2.out.free 0
                      have z4 := HBX2.out.free 1
                      replace c3 := ((Away.refl [] wr).drewN nq).cell (by simp) c3
                      replace c4 := ((Away.refl [] wr).drewN nq).cell (by simp) c4
                      generalize wr.drewN nq = W2 at *
                      simp only at z1 z2
                      go_wp2_with fail
                      go_region
                      all_goals (go_wp2_with fail; go_roundw)
                      case rel => exact ⟨j + 1, t1, p2, by omega, by omega, by go_num, (HBX2.out.on ((Away.refl [] _).drewN 1) (by simp)).set t1 p2, ((HAW2.out.drewN 1).setCell (.inl (by simp)) _).setCell (.inl (by simp)) _, by rw [HMG.out, HMA.out, e1, e2]⟩
                      case measure => simp [intOf]; omega
                  · rcases (show (max t2 p2 = t2 ∧ p2 ≤ t2) ∨ (max t2 p2 = p2 ∧ t2 < p2) by omega) with ⟨e2, o2⟩ | ⟨e2, o2⟩
                    · go_wp2_with fail
                      go_quiet (fail)
                      have HBX2 := hidI (HBX.out.on ((Away.refl [] wr).drewN nq) (by simp))
                      have HAW2 := hidI (HAW.out.drewN nq)
                      have z1 := HBX2.out.c0
                      have z2 := HBX2.out.c1
                      have z3 := HBX2.out.free 0
                      have z4 := HBX2.out.free 1
                      replace c3 := ((Away.refl [] wr).drewN nq).cell (by simp) c3
                      replace c4 := ((Away.refl [] wr).drewN nq).cell (by simp) c4
                      generalize wr.drewN nq = W2 at *
                      simp only at z1 z2
                      go_wp2_with fail
                      go_region
                      all_goals (go_wp2_with fail; go_roundw)
                      case rel => exact ⟨j + 1, p1, t2, by omega, by omega, by go_num, (HBX2.out.on ((Away.refl [] _).drewN 1) (by simp)).set p1 t2, ((HAW2.out.drewN 1).setCell (.inl (by simp)) _).setCell (.inl (by simp)) _, by rw [HMG.out, HMA.out, e1, e2]⟩
                      case measure => simp [intOf]; omega
                    · go_wp2_with fail
                      go_quiet (fail)
                      have HBX2 := hidI (HBX.out.on ((Away.refl [] wr).drewN nq) (by simp))
                      have HAW2 := hidI (HAW.out.drewN nq)
                      have z1 := HBX2.out.c0
                      have z2 := HBX2.out.c1
                      have z3 := HBX2.out.free 0
                      have z4 := HBX2.out.free 1
                      replace c3 := ((Away.refl [] wr).drewN nq).cell (by simp) c3
                      replace c4 := ((Away.refl [] wr).drewN nq).cell (by simp) c4
                      generalize wr.drewN nq = W2 at *
                      simp only at z1 z2
                      go_wp2_with fail
                      go_region
                      all_goals (go_wp2_with fail; go_roundw)
                      case rel => exact ⟨j + 1, p1, p2, by omega, by omega, by go_num, (HBX2.out.on ((Away.refl [] _).drewN 1) (by simp)).set p1 p2, ((HAW2.out.drewN 1).setCell (.inl (by simp)) _).setCell (.inl (by simp)) _, by rw [HMG.out, HMA.out, e1, e2]⟩
                      case measure => simp [intOf]; omega
                · have d3 : decide (p1 ≤ t2) = false := by simp [hle]
                  have HMS : Hid (mergeP (s1, s2) (behindP s1 l) = ((t1, t2), l.drop j)) := by
                    show _ = _
                    rw [HMG.out, merge_stop hy (by simp only; omega)]
                  clear hy
                  go_wp2_with fail
                  go_quiet (fail)
                  replace HBX := hidI (HBX.out.on ((Away.refl [] wr).drewN nq) (by simp))
                  replace HAW := hidI (HAW.out.drewN nq)
                  replace HRJ := hidI (HRJ.out.drewN nq)
                  clear y1 y2
                  generalize wr.drewN nq = W2 at *
                  have hz1 := HAW1.out.size
                  have hz2 := HAW.out.size
                  have hbl := lt_of_block HBX.out
                  have HAWT : Hid (Away [] w W2) := HAW1.out.next HAW.out (fun x hx => .inr (by simp at hx; omega))
                  have hmk := make_s k (k + 1 + l.length - j) (k : Int) ((k : Int) + 1 + l.length - j) rfl (by omega) (by omega) (by omega)
                  obtain ⟨c, hcd⟩ : ∃ c, c = k + 1 + l.length - j := ⟨_, rfl⟩
                  rw [← hcd] at hmk
                  have HCD : Hid (c = k + 1 + l.length - j) := hcd
                  have hkc : k ≤ c := by omega
                  have hcm : c ≤ 8796093022208 := by omega
                  have hsl := slice_h (some ⟨b, off, none⟩) l.length cap k (k : Int) rfl (by omega)
                  have HB : Hid (Buf (W2.alloc (madeO c)) W2.heap.size c) := Buf.made W2 c hcm
                  have HRA : Hid (Row (W2.alloc (madeO c)) (some ⟨b, off, none⟩) l) := HRJ.out.on ((Away.refl [] W2).alloc _)
                  obtain ⟨w3, hrun, hl3, haw3⟩ := run_copy2 (W2.alloc (madeO c)) 3 W2.heap.size k c (some ⟨b, off, none⟩) cap (l.take k) (by simp; omega) HB.out hkc HN.out (HRA.out.head k)
                  have HL3 : Hid (Mk w w3 (.slice (some ⟨W2.heap.size, 0, none⟩) k c) (l.take k)) := ⟨hl3, fun q hq => by simp [Value.ownBlock] at hq; omega, (HAWT.out.alloc _).next haw3 (fun x hx => .inr (by simp at hx; omega))⟩
                  have HBX3 : Hid (BoxS w3 w.heap.size (t1, t2)) := (HBX.out.on ((Away.refl [] W2).alloc (madeO c)) (by simp)).on haw3 (by simp; omega)
                  have HRJ3 : Hid (Row w3 (some ⟨b, off, none⟩) l) := HRA.out.away haw3 (fun p hp => by have := HAL.out p hp; simp; omega)
                  have z1 := HBX3.out.c0
                  have z2 := HBX3.out.c1
                  simp only at z1 z2
                  have HKL : Hid ((l.take k).length = k) := by show _ = _; simp; omega
                  clear hl3 haw3 hcd HB HRA
                  generalize l.take k = m at *
                  go_wp2_with (at_builtin; refine wpList_app2 rfl _ _ rfl _ m rfl (by exact HL3.out.1.on ((Away.refl [] _).alloc _)) ⟨_, 0, none⟩ 1 rfl (t1, t2) (by rw [World.cell?_alloc_at (hn := rfl)]; rfl) (by rw [add_plain, World.cell?_alloc_at (hn := rfl)]; rfl) (by rw [HKL.out]; omega) ?_)
                  intro v4 w4 hown4 hgr4 hmov4
                  have hz3 := HL3.out.2.2.size
                  have HM4 : Hid (Mk w w4 v4 (m ++ [(t1, t2)])) := ⟨hown4, HL3.out.2.1.moved hmov4 (by simp; omega), (HL3.out.2.2.alloc _).step hgr4 HL3.out.2.1⟩
                  have haw4 : Away [W2.heap.size] w3 w4 := ((Away.refl [W2.heap.size] w3).alloc _).grown hgr4 (fun q hq => by simp [Value.ownBlock] at hq; left; simp; omega)
                  have HRJ4 : Hid (Row w4 (some ⟨b, off, none⟩) l) := HRJ3.out.away haw4 (fun p hp => by have := HAL.out p hp; simp; omega)
                  clear hown4 hgr4 hmov4 haw4 z1 z2 hrun hmk hsl
                  obtain ⟨A, hA⟩ : ∃ A, A = if cap = j then (some ⟨b, off, none⟩) else ((some ⟨b, off, none⟩) : Option Addr).map (·.add (j * 2)) := ⟨_, rfl⟩
                  have hs2 := slice_l (some ⟨b, off, none⟩) A l.length cap j (j : Int) hA rfl (by omega)
                  have HRT : Hid (Row w4 A (l.drop j)) := by rw [hA]; exact HRJ4.out.tail j cap hcap (by omega)
                  have HNA : Hid (A = none → cap - j = 0) := fun h => by
                    rw [hA] at h
                    split at h
                    · omega
                    · have h2 : ((some ⟨b, off, none⟩) : Option Addr) = none := Option.map_eq_none_iff.1 h
                      have := HN.out h2
                      omega
                  have HDL : Hid ((l.drop j).length = l.length - j) := by show _ = _; simp
                  have HRES : Hid (addP l (s1, s2) = m ++ [(t1, t2)] ++ l.drop j) := by
                    show _ = _
                    unfold addP
                    simp only
                    rw [HAH.out, HMS.out]; simp
                  clear hA
                  generalize l.drop j = d at *
                  go_wp2_with (at_builtin; refine wpList_appL rfl _ _ rfl _ (m ++ [(t1, t2)]) d rfl (by exact HM4.out.1) A (l.length - j) (cap - j) rfl HDL.out HNA.out (by exact HRT.out) (by rw [List.length_append, HKL.out]; simp; omega) ?_)
                  intro v5 w5 hown5 hgr5 hmov5
                  have HM5 : Hid (Mk w w5 v5 (m ++ [(t1, t2)] ++ d)) := ⟨by simpa using hown5, HM4.out.2.1.moved hmov5 (by have := HM4.out.2.2.size; omega), HM4.out.2.2.step hgr5 HM4.out.2.1⟩
                  clear hown5 hgr5 hmov5
                  go_wp2_with fail
                  go_ret2
                  exact (show Ans w (true && isB (s1, s2)) _ _ _ by rw [HS.out, HRES.out]; exact Ans.yes HM5.out)
              · have t1' : decide ((j : Int) < (l.length : Int)) = false := by simp; omega
                have HMS : Hid (mergeP (s1, s2) (behindP s1 l) = ((t1, t2), l.drop j)) := by
                  show _ = _
                  rw [HMG.out, List.drop_eq_nil_of_le (by omega)]; rfl
                go_wp2_with fail
                go_quiet (fail)
                replace HBX := hidI (HBX.out.on ((Away.refl [] wr).drewN nq) (by simp))
                replace HAW := hidI (HAW.out.drewN nq)
                replace HRJ := hidI (HRJ.out.drewN nq)
                clear y1 y2
                generalize wr.drewN nq = W2 at *
                have hz1 := HAW1.out.size
                have hz2 := HAW.out.size
                have hbl := lt_of_block HBX.out
                have HAWT : Hid (Away [] w W2) := HAW1.out.next HAW.out (fun x hx => .inr (by simp at hx; omega))
                have hmk := make_s k (k + 1 + l.length - j) (k : Int) ((k : Int) + 1 + l.length - j) rfl (by omega) (by omega) (by omega)
                obtain ⟨c, hcd⟩ : ∃ c, c = k + 1 + l.length - j := ⟨_, rfl⟩
                rw [← hcd] at hmk
                have HCD : Hid (c = k + 1 + l.length - j) := hcd
                have hkc : k ≤ c := by omega
                have hcm : c ≤ 8796093022208 := by omega
                have hsl := slice_h (some ⟨b, off, none⟩) l.length cap k (k : Int) rfl (by omega)
                have HB : Hid (Buf (W2.alloc (madeO c)) W2.heap.size c) := Buf.made W2 c hcm
                have HRA : Hid (Row (W2.alloc (madeO c)) (some ⟨b, off, none⟩) l) := HRJ.out.on ((Away.refl [] W2).alloc _)
                obtain ⟨w3, hrun, hl3, haw3⟩ := run_copy2 (W2.alloc (madeO c)) 3 W2.heap.size k c (some ⟨b, off, none⟩) cap (l.take k) (by simp; omega) HB.out hkc HN.out (HRA.out.head k)
                have HL3 : Hid (Mk w w3 (.slice (some ⟨W2.heap.size, 0, none⟩) k c) (l.take k)) := ⟨hl3, fun q hq => by simp [Value.ownBlock] at hq; omega, (HAWT.out.alloc _).next haw3 (fun x hx => .inr (by simp at hx; omega))⟩
                have HBX3 : Hid (BoxS w3 w.heap.size (t1, t2)) := (HBX.out.on ((Away.refl [] W2).alloc (madeO c)) (by simp)).on haw3 (by simp; omega)
                have HRJ3 : Hid (Row w3 (some ⟨b, off, none⟩) l) := HRA.out.away haw3 (fun p hp => by have := HAL.out p hp; simp; omega)
                have z1 := HBX3.out.c0
                have z2 := HBX3.out.c1
                simp only at z1 z2
                have HKL : Hid ((l.take k).length = k) := by show _ = _; simp; omega
                clear hl3 haw3 hcd HB HRA
                generalize l.take k = m at *
                go_wp2_with (at_builtin; refine wpList_app2 rfl _ _ rfl _ m rfl (by exact HL3.out.1.on ((Away.refl [] _).alloc _)) ⟨_, 0, none⟩ 1 rfl (t1, t2) (by rw [World.cell?_alloc_at (hn := rfl)]; rfl) (by rw [add_plain, World.cell?_alloc_at (hn := rfl)]; rfl) (by rw [HKL.out]; omega) ?_)
                intro v4 w4 hown4 hgr4 hmov4
                have hz3 := HL3.out.2.2.size
                have HM4 : Hid (Mk w w4 v4 (m ++ [(t1, t2)])) := ⟨hown4, HL3.out.2.1.moved hmov4 (by simp; omega), (HL3.out.2.2.alloc _).step hgr4 HL3.out.2.1⟩
                have haw4 : Away [W2.heap.size] w3 w4 := ((Away.refl [W2.heap.size] w3).alloc _).grown hgr4 (fun q hq => by simp [Value.ownBlock] at hq; left; simp; omega)
                have HRJ4 : Hid (Row w4 (some ⟨b, off, none⟩) l) := HRJ3.out.away haw4 (fun p hp => by have := HAL.out p hp; simp; omega)
                clear hown4 hgr4 hmov4 haw4 z1 z2 hrun hmk hsl
                obtain ⟨A, hA⟩ : ∃ A, A = if cap = j then (some ⟨b, off, none⟩) else ((some ⟨b, off, none⟩) : Option Addr).map (·.add (j * 2)) := ⟨_, rfl⟩
                have hs2 := slice_l (some ⟨b, off, none⟩) A l.length cap j (j : Int) hA rfl (by omega)
                have HRT : Hid (Row w4 A (l.drop j)) := by rw [hA]; exact HRJ4.out.tail j cap hcap (by omega)
                have HNA : Hid (A = none → cap - j = 0) := fun h => by
                  rw [hA] at h
                  split at h
                  · omega
                  · have h2 : ((some ⟨b, off, none⟩) : Option Addr) = none := Option.map_eq_none_iff.1 h
                    have := HN.out h2
                    omega
                have HDL : Hid ((l.drop j).length = l.length - j) := by show _ = _; simp
                have HRES : Hid (addP l (s1, s2) = m ++ [(t1, t2)] ++ l.drop j) := by
                  show _ = _
                  unfold addP
                  simp only
                  rw [HAH.out, HMS.out]; simp
                clear hA
                generalize l.drop j = d at *
                go_wp2_with (at_builtin; refine wpList_appL rfl _ _ rfl _ (m ++ [(t1, t2)]) d rfl (by exact HM4.out.1) A (l.length - j) (cap - j) rfl HDL.out HNA.out (by exact HRT.out) (by rw [List.length_append, HKL.out]; simp; omega) ?_)
                intro v5 w5 hown5 hgr5 hmov5
                have HM5 : Hid (Mk w w5 v5 (m ++ [(t1, t2)] ++ d)) := ⟨by simpa using hown5, HM4.out.2.1.moved hmov5 (by have := HM4.out.2.2.size; omega), HM4.out.2.2.step hgr5 HM4.out.2.1⟩
                clear hown5 hgr5 hmov5
                go_wp2_with fail
                go_ret2
                exact (show Ans w (true && isB (s1, s2)) _ _ _ by rw [HS.out, HRES.out]; exact Ans.yes HM5.out)
        · have t1 : decide ((k : Int) < (l.length : Int)) = false := by simp; omega
          have HAH : Hid (aheadP s1 l = l.take k) := by show _ = _; rw [HQ1.out, List.drop_eq_nil_of_le (by omega)]; simp [aheadP]
          have HBH : Hid (behindP s1 l = l.drop k) := by show _ = _; rw [HQ2.out, List.drop_eq_nil_of_le (by omega)]; rfl
          go_wp2_with fail
          go_quiet (fail)
          replace HBX1 := hidI (HBX1.out.on ((Away.refl [] wr).drewN nq) (by simp))
          replace HAW1 := hidI (HAW1.out.drewN nq)
          replace HRW := hidI (HRW.out.drewN nq)
          clear y1 y2 t1
          generalize wr.drewN nq = W1 at *
          go_wp2_with fail
          have HW1 : Hid (BoxS W1 w.heap.size (s1, s2)) := HBX1.out
          go_loopw [7] (fun i wr => ∃ (j : Nat) (t1 t2 : Int), k ≤ j ∧ j ≤ l.length ∧ i = .int .i64 (j : Int) ∧ BoxS wr w.heap.size (t1, t2) ∧ Away [w.heap.size] W1 wr ∧ mergeP (s1, s2) (behindP s1 l) = mergeP (t1, t2) (l.drop j)) (fun i _ => l.length - (intOf i).toNat)
          case atStart => exact ⟨k, s1, s2, by omega, by omega, rfl, HW1.out, Away.refl _ _, by rw [HBH.out]⟩
          case round =>
            obtain ⟨j, t1, t2, hkj, hj, rfl, hbx, haw2, hmg⟩ := hrel
            have HMG : Hid (mergeP (s1, s2) (behindP s1 l) = mergeP (t1, t2) (l.drop j)) := hmg
            have HBX : Hid (BoxS wr w.heap.size (t1, t2)) := hbx
            have HAW : Hid (Away [w.heap.size] W1 wr) := haw2
            have y1 := hbx.c0
            have y2 := hbx.c1
            simp only at y1 y2
            have HRJ : Hid (Row wr a l) := HRW.out.away haw2 (fun p hp => by have := HAL.out p hp; simp; omega)
            clear hmg hbx haw2
            by_cases hjl : j < l.length
            · exfalso; omega
            · have t1' : decide ((j : Int) < (l.length : Int)) = false := by simp; omega
              have HMS : Hid (mergeP (s1, s2) (behindP s1 l) = ((t1, t2), l.drop j)) := by
                show _ = _
                rw [HMG.out, List.drop_eq_nil_of_le (by omega)]; rfl
              go_wp2_with fail
              go_quiet (fail)
              replace HBX := hidI (HBX.out.on ((Away.refl [] wr).drewN nq) (by simp))
              replace HAW := hidI (HAW.out.drewN nq)
              replace HRJ := hidI (HRJ.out.drewN nq)
              clear y1 y2
              generalize wr.drewN nq = W2 at *
              have hz1 := HAW1.out.size
              have hz2 := HAW.out.size
              have hbl := lt_of_block HBX.out
              have HAWT : Hid (Away [] w W2) := HAW1.out.next HAW.out (fun x hx => .inr (by simp at hx; omega))
              have hmk := make_s k (k + 1 + l.length - j) (k : Int) ((k : Int) + 1 + l.length - j) rfl (by omega) (by omega) (by omega)
              obtain ⟨c, hcd⟩ : ∃ c, c = k + 1 + l.length - j := ⟨_, rfl⟩
              rw [← hcd] at hmk
              have HCD : Hid (c = k + 1 + l.length - j) := hcd
              have hkc : k ≤ c := by omega
              have hcm : c ≤ 8796093022208 := by omega
              have hsl := slice_h a l.length cap k (k : Int) rfl (by omega)
              have HB : Hid (Buf (W2.alloc (madeO c)) W2.heap.size c) := Buf.made W2 c hcm
              have HRA : Hid (Row (W2.alloc (madeO c)) a l) := HRJ.out.on ((Away.refl [] W2).alloc _)
              obtain ⟨w3, hrun, hl3, haw3⟩ := run_copy2 (W2.alloc (madeO c)) 3 W2.heap.size k c a cap (l.take k) (by simp; omega) HB.out hkc HN.out (HRA.out.head k)
              have HL3 : Hid (Mk w w3 (.slice (some ⟨W2.heap.size, 0, none⟩) k c) (l.take k)) := ⟨hl3, fun q hq => by simp [Value.ownBlock] at hq; omega, (HAWT.out.alloc _).next haw3 (fun x hx => .inr (by simp at hx; omega))⟩
              have HBX3 : Hid (BoxS w3 w.heap.size (t1, t2)) := (HBX.out.on ((Away.refl [] W2).alloc (madeO c)) (by simp)).on haw3 (by simp; omega)
              have HRJ3 : Hid (Row w3 a l) := HRA.out.away haw3 (fun p hp => by have := HAL.out p hp; simp; omega)
              have z1 := HBX3.out.c0
              have z2 := HBX3.out.c1
              simp only at z1 z2
              have HKL : Hid ((l.take k).length = k) := by show _ = _; simp; omega
              clear hl3 haw3 hcd HB HRA
              generalize l.take k = m at *
              go_wp2_with (at_builtin; refine wpList_app2 rfl _ _ rfl _ m rfl (by exact HL3.out.1.on ((Away.refl [] _).alloc _)) ⟨_, 0, none⟩ 1 rfl (t1, t2) (by rw [World.cell?_alloc_at (hn := rfl)]; rfl) (by rw [add_plain, World.cell?_alloc_at (hn := rfl)]; rfl) (by rw [HKL.out]; omega) ?_)
              intro v4 w4 hown4 hgr4 hmov4
              have hz3 := HL3.out.2.2.size
              have HM4 : Hid (Mk w w4 v4 (m ++ [(t1, t2)])) := ⟨hown4, HL3.out.2.1.moved hmov4 (by simp; omega), (HL3.out.2.2.alloc _).step hgr4 HL3.out.2.1⟩
              have haw4 : Away [W2.heap.size] w3 w4 := ((Away.refl [W2.heap.size] w3).alloc _).grown hgr4 (fun q hq => by simp [Value.ownBlock] at hq; left; simp; omega)
              have HRJ4 : Hid (Row w4 a l) := HRJ3.out.away haw4 (fun p hp => by have := HAL.out p hp; simp; omega)
              clear hown4 hgr4 hmov4 haw4 z1 z2 hrun hmk hsl
              obtain ⟨A, hA⟩ : ∃ A, A = if cap = j then a else (a : Option Addr).map (·.add (j * 2)) := ⟨_, rfl⟩
              have hs2 := slice_l a A l.length cap j (j : Int) hA rfl (by omega)
              have HRT : Hid (Row w4 A (l.drop j)) := by rw [hA]; exact HRJ4.out.tail j cap hcap (by omega)
              have HNA : Hid (A = none → cap - j = 0) := fun h => by
                rw [hA] at h
                split at h
                · omega
                · have h2 : (a : Option Addr) = none := Option.map_eq_none_iff.1 h
                  have := HN.out h2
                  omega
              have HDL : Hid ((l.drop j).length = l.length - j) := by show _ = _; simp
              have HRES : Hid (addP l (s1, s2) = m ++ [(t1, t2)] ++ l.drop j) := by
                show _ = _
                unfold addP
                simp only
                rw [HAH.out, HMS.out]; simp
              clear hA
              generalize l.drop j = d at *
              go_wp2_with (at_builtin; refine wpList_appL rfl _ _ rfl _ (m ++ [(t1, t2)]) d rfl (by exact HM4.out.1) A (l.length - j) (cap - j) rfl HDL.out HNA.out (by exact HRT.out) (by rw [List.length_append, HKL.out]; simp; omega) ?_)
              intro v5 w5 hown5 hgr5 hmov5
              have HM5 : Hid (Mk w w5 v5 (m ++ [(t1, t2)] ++ d)) := ⟨by simpa using hown5, HM4.out.2.1.moved hmov5 (by have := HM4.out.2.2.size; omega), HM4.out.2.2.step hgr5 HM4.out.2.1⟩
              clear hown5 hgr5 hmov5
              go_wp2_with fail
              go_ret2
              exact (show Ans w (true && isB (s1, s2)) _ _ _ by rw [HS.out, HRES.out]; exact Ans.yes HM5.out)

#print axioms add_c
end Go.Proofs.Ytckiiidigajhpaa
