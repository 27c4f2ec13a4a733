/-
  Cut, Holes, Has, Meets, Size.
-/
import Derived.Test.YtkccpidgeecemaaGreatDoorHFn1
namespace Go.Proofs.YtkccpidgeecemaaGreatDoor.H
open Go.ChangeShapes Go.WideShapes Go.ChangeAt Go.RowKit
set_option linter.unusedVariables false

theorem hidI {p : Prop} (h : p) : Hid p := h
theorem Mk.on {w0 w w' : World} {v : Value} {l : List Sp} (h : Mk w0 w v l) (hw : Away [] w w') : Mk w0 w' v l := ⟨h.1.on hw, h.2.1, h.2.2.trans hw⟩
theorem Mk.grew {w0 w w' : World} {v v' : Value} {l l' : List Sp} (h : Mk w0 w v l) (hg : Grew w w' v v' l') : Mk w0 w' v' l' :=
  ⟨hg.1, h.2.1.moved hg.2.1 h.2.2.size, h.2.2.next hg.2.2 (fun x hx => .inr (h.2.1 x (by simpa using hx)))⟩
theorem Mk.nil (w : World) : Mk w w (.slice none 0 0) [] := ⟨Lst.nil _, New.nil _, Away.refl _ _⟩
theorem Mk.base {w0 w1 w : World} {v : Value} {l : List Sp} (h : Mk w1 w v l) (hw : Away [] w0 w1) : Mk w0 w v l := ⟨h.1, h.2.1.mono hw.size, hw.trans h.2.2⟩
theorem putP_len (f t : Int) : (putP f t).length ≤ 1 := by unfold putP; split <;> simp
theorem cut_len (l : List Sp) (s : Sp) : (cutP l s).length ≤ 2 * l.length := by
  induction l with
  | nil => simp [cutP]
  | cons x r ih =>
    have hc : cutP (x :: r) s = putP x.1 (min x.2 s.1) ++ putP (max x.1 s.2) x.2 ++ cutP r s := by simp [cutP]
    have h1 := putP_len x.1 (min x.2 s.1)
    have h2 := putP_len (max x.1 s.2) x.2
    rw [hc, List.length_append, List.length_append, List.length_cons]
    omega
theorem cut_snoc {l : List Sp} {k : Nat} {x : Sp} (s : Sp) (h : l[k]? = some x) : cutP (l.take (k + 1)) s = (cutP (l.take k) s ++ putP x.1 (min x.2 s.1)) ++ putP (max x.1 s.2) x.2 := by
  rw [take_snoc h]; simp [cutP]
/-- What answers a list and OK, or nil and ErrArg. -/
def Ans (w : World) (b : Bool) (r : List Sp) (E : Ending) (w' : World) : Prop :=
  if b = true then ∃ v, E = .returned (.tuple #[v, .int .i64 0]) ∧ Mk w w' v r else E = .returned (.tuple #[.slice none 0 0, .int .i64 1]) ∧ Away [] w w'
theorem Ans.yes {w w' : World} {r : List Sp} {v : Value} (h : Mk w w' v r) : Ans w true r (.returned (.tuple #[v, .int .i64 0])) w' := by unfold Ans; rw [if_pos rfl]; exact ⟨v, rfl, h⟩
theorem Ans.no {w w' : World} {r : List Sp} (h : Away [] w w') : Ans w false r (.returned (.tuple #[.slice none 0 0, .int .i64 1])) w' := by unfold Ans; rw [if_neg (by simp)]; exact ⟨rfl, h⟩
set_option maxHeartbeats 4000000 in
theorem cut_c (a : Option Addr) (l : List Sp) (s : Sp) (n cap : Nat) (w : World) (hn : l.length = n) (hr : Row w a l) :
    Calls Tryz.prog 98 #[.slice a n cap, valS s] w fun E w' => Ans w (rightP l && isB s) (cutP l s) E w' := by
  subst hn
  have hlen := hr.1
  have HR : Hid (Row w a l) := hr
  clear hr
  obtain ⟨s1, s2⟩ := s
  simp only [valS]
  cases hb : rightP l
  · go_enter Tryz.func98, Tryz.ntmps98
    go_wp2_with fail
    refine (right_c a l _ _ _ rfl (by exact HR.out.on ((Away.refl [] w).alloc _))).mono ?_
    rintro E w2 ⟨rfl, haw2⟩
    rw [hb]
    have haw3 : Away [] w w2 := ((Away.refl [] w).alloc _).trans haw2
    clear haw2
    go_wp2_with fail
    go_ret2
    exact Ans.no haw3
  · have hshort := right_short hb
    go_enter Tryz.func98, Tryz.ntmps98
    go_wp2_with fail
    refine (right_c a l _ _ _ rfl (by exact HR.out.on ((Away.refl [] w).alloc _))).mono ?_
    rintro E w2 ⟨rfl, haw2⟩
    rw [hb]
    have k1 : w2.cell? ⟨w.heap.size, 0, none⟩ = some (.int .i64 s1) := haw2.cell (by simp) (by simp)
    have k2 : w2.cell? ⟨w.heap.size, 1, none⟩ = some (.int .i64 s2) := haw2.cell (by simp) (by simp)
    have haw3 : Away [] w w2 := ((Away.refl [] w).alloc _).trans haw2
    clear haw2
    go_wp2_with fail
    refine (isSpan_c (s1, s2) _).mono ?_
    rintro E w1 ⟨rfl, haw4⟩
    have K1 := haw4.cell (by simp) k1
    have K2 := haw4.cell (by simp) k2
    have haw : Away [] w w1 := haw3.trans haw4
    clear haw3 haw4 k1 k2
    cases hs : isB (s1, s2)
    · go_wp2_with fail
      go_ret2
      exact (show Ans w (true && isB (s1, s2)) _ _ _ by rw [hs]; exact Ans.no haw)
    · go_wp2_with fail
      go_loopw [6, 19] (fun v i wr => ∃ k : Nat, k ≤ l.length ∧ i = .int .i64 k ∧ Mk w1 wr v (cutP (l.take k) (s1, s2))) (fun _ i _ => l.length - (intOf i).toNat)
      case atStart => exact ⟨0, by omega, rfl, Mk.nil _⟩
      case round =>
        obtain ⟨k, hk, rfl, hm⟩ := hrel
        have HM : Hid (Mk w1 wr u6 (cutP (l.take k) (s1, s2))) := hm
        have q1 := hm.2.2.cell (by simp) K1
        have q2 := hm.2.2.cell (by simp) K2
        by_cases hlt : k < l.length
        · obtain ⟨x, hx, _⟩ := get_of hlt
          obtain ⟨b, off, rfl, c1, c2, -⟩ := ((HR.out.on haw).on hm.2.2).at hx
          have HT : Hid (cutP (l.take (k + 1)) (s1, s2) = (cutP (l.take k) (s1, s2) ++ putP x.1 (min x.2 s1)) ++ putP (max x.1 s2) x.2) := cut_snoc (s1, s2) hx
          have HLN : Hid ((cutP (l.take k) (s1, s2)).length ≤ 65536) := by
            show _ ≤ _
            have := cut_len (l.take k) (s1, s2)
            have h2 : (l.take k).length ≤ l.length := by simp; omega
            omega
          clear hx hm
          obtain ⟨x1, x2⟩ := x
          simp only at c1 c2 HT
          generalize cutP (l.take k) (s1, s2) = m at *
          have q3 : (wr.alloc (.cells #[.int .i64 x1, .int .i64 x2] 112)).cell? ⟨w.heap.size, 0, none⟩ = some (.int .i64 s1) := ((Away.refl [] wr).alloc _).cell (by simp) q1
          have q4 : (wr.alloc (.cells #[.int .i64 x1, .int .i64 x2] 112)).cell? ⟨w.heap.size, 1, none⟩ = some (.int .i64 s2) := ((Away.refl [] wr).alloc _).cell (by simp) q2
          clear q1 q2
          have hm0 := HM.out.on ((Away.refl [] wr).alloc (.cells #[.int .i64 x1, .int .i64 x2] 112))
          have HM0 : Hid (Mk w1 (wr.alloc (.cells #[.int .i64 x1, .int .i64 x2] 112)) u6 m) := hm0
          have HB : Hid (∀ j, u6.ownBlock = some j → w1.heap.size ≤ j ∧ j < wr.heap.size) := fun j hj => ⟨hm0.2.1 j hj, HM.out.1.lt j hj⟩
          have hs1 := haw.size
          have hs2 := HM.out.2.2.size
          have HW0 : Hid (w.heap.size < w1.heap.size) := block_lt_of_cell K1
          clear hm0
          rcases (show (min x2 s1 = x2 ∧ x2 ≤ s1) ∨ (min x2 s1 = s1 ∧ s1 < x2) by omega) with ⟨e1, o1⟩ | ⟨e1, o1⟩
          · rcases (show (max x1 s2 = x1 ∧ s2 ≤ x1) ∨ (max x1 s2 = s2 ∧ x1 < s2) by omega) with ⟨e2, o2⟩ | ⟨e2, o2⟩
            · go_wp2_with fail
              refine (put_c u6 m _ _ _ (by exact HM0.out.1) (by have := HLN.out; omega)).mono ?_
              rintro E w3 ⟨v3, rfl, hg3⟩
              have hne : w.heap.size ∉ u6.ownBlock.toList := fun hx => by
                have h1 := HB.out w.heap.size (by simpa using hx)
                have h2 := HW0.out
                omega
              have hne2 : wr.heap.size ∉ u6.ownBlock.toList := fun hx => by
                have h1 := HB.out wr.heap.size (by simpa using hx)
                omega
              have r1 := hg3.2.2.cell hne q3
              have r2 := hg3.2.2.cell hne q4
              have r3 : w3.cell? ⟨wr.heap.size, 0, none⟩ = some (.int .i64 x1) := hg3.2.2.cell hne2 (by simp)
              have r4 : w3.cell? ⟨wr.heap.size, 1, none⟩ = some (.int .i64 x2) := hg3.2.2.cell hne2 (by simp)
              have HM3 := hidI (HM0.out.grew hg3)
              have HL3 : Hid (∀ f t, (m ++ putP f t).length ≤ 65537) := fun f t => by
                have h1 := HLN.out
                have h2 := putP_len f t
                rw [List.length_append]; omega
              clear hg3 q3 q4 hne hne2
              go_wp2_with fail
              refine (put_c v3 _ _ _ _ (by exact HM3.out.1) (by have := HL3.out x1 (min x2 s1); rw [e1] at this; omega)).mono ?_
              rintro E w4 ⟨v4, rfl, hg4⟩
              have HM4 := hidI (HM3.out.grew hg4)
              clear hg4
              go_wp2_with fail
              go_roundw
              case rel => exact ⟨k + 1, by omega, by go_num, by rw [HT.out, e1, e2]; exact HM4.out⟩
              case measure => simp [intOf]; omega
            · go_wp2_with fail
              refine (put_c u6 m _ _ _ (by exact HM0.out.1) (by have := HLN.out; omega)).mono ?_
              rintro E w3 ⟨v3, rfl, hg3⟩
              have hne : w.heap.size ∉ u6.ownBlock.toList := fun hx => by
                have h1 := HB.out w.heap.size (by simpa using hx)
                have h2 := HW0.out
                omega
              have hne2 : wr.heap.size ∉ u6.ownBlock.toList := fun hx => by
                have h1 := HB.out wr.heap.size (by simpa using hx)
                omega
              have r1 := hg3.2.2.cell hne q3
              have r2 := hg3.2.2.cell hne q4
              have r3 : w3.cell? ⟨wr.heap.size, 0, none⟩ = some (.int .i64 x1) := hg3.2.2.cell hne2 (by simp)
              have r4 : w3.cell? ⟨wr.heap.size, 1, none⟩ = some (.int .i64 x2) := hg3.2.2.cell hne2 (by simp)
              have HM3 := hidI (HM0.out.grew hg3)
              have HL3 : Hid (∀ f t, (m ++ putP f t).length ≤ 65537) := fun f t => by
                have h1 := HLN.out
                have h2 := putP_len f t
                rw [List.length_append]; omega
              clear hg3 q3 q4 hne hne2
              go_wp2_with fail
              refine (put_c v3 _ _ _ _ (by exact HM3.out.1) (by have := HL3.out x1 (min x2 s1); rw [e1] at this; omega)).mono ?_
              rintro E w4 ⟨v4, rfl, hg4⟩
              have HM4 := hidI (HM3.out.grew hg4)
              clear hg4
              go_wp2_with fail
              go_roundw
              case rel => exact ⟨k + 1, by omega, by go_num, by rw [HT.out, e1, e2]; exact HM4.out⟩
              case measure => simp [intOf]; omega
          · rcases (show (max x1 s2 = x1 ∧ s2 ≤ x1) ∨ (max x1 s2 = s2 ∧ x1 < s2) by omega) with ⟨e2, o2⟩ | ⟨e2, o2⟩
            · go_wp2_with fail
              refine (put_c u6 m _ _ _ (by exact HM0.out.1) (by have := HLN.out; omega)).mono ?_
              rintro E w3 ⟨v3, rfl, hg3⟩
              have hne : w.heap.size ∉ u6.ownBlock.toList := fun hx => by
                have h1 := HB.out w.heap.size (by simpa using hx)
                have h2 := HW0.out
                omega
              have hne2 : wr.heap.size ∉ u6.ownBlock.toList := fun hx => by
                have h1 := HB.out wr.heap.size (by simpa using hx)
                omega
              have r1 := hg3.2.2.cell hne q3
              have r2 := hg3.2.2.cell hne q4
              have r3 : w3.cell? ⟨wr.heap.size, 0, none⟩ = some (.int .i64 x1) := hg3.2.2.cell hne2 (by simp)
              have r4 : w3.cell? ⟨wr.heap.size, 1, none⟩ = some (.int .i64 x2) := hg3.2.2.cell hne2 (by simp)
              have HM3 := hidI (HM0.out.grew hg3)
              have HL3 : Hid (∀ f t, (m ++ putP f t).length ≤ 65537) := fun f t => by
                have h1 := HLN.out
                have h2 := putP_len f t
                rw [List.length_append]; omega
              clear hg3 q3 q4 hne hne2
              go_wp2_with fail
              refine (put_c v3 _ _ _ _ (by exact HM3.out.1) (by have := HL3.out x1 (min x2 s1); rw [e1] at this; omega)).mono ?_
              rintro E w4 ⟨v4, rfl, hg4⟩
              have HM4 := hidI (HM3.out.grew hg4)
              clear hg4
              go_wp2_with fail
              go_roundw
              case rel => exact ⟨k + 1, by omega, by go_num, by rw [HT.out, e1, e2]; exact HM4.out⟩
              case measure => simp [intOf]; omega
            · go_wp2_with fail
              refine (put_c u6 m _ _ _ (by exact HM0.out.1) (by have := HLN.out; omega)).mono ?_
              rintro E w3 ⟨v3, rfl, hg3⟩
              have hne : w.heap.size ∉ u6.ownBlock.toList := fun hx => by
                have h1 := HB.out w.heap.size (by simpa using hx)
                have h2 := HW0.out
                omega
              have hne2 : wr.heap.size ∉ u6.ownBlock.toList := fun hx => by
                have h1 := HB.out wr.heap.size (by simpa using hx)
                omega
              have r1 := hg3.2.2.cell hne q3
              have r2 := hg3.2.2.cell hne q4
              have r3 : w3.cell? ⟨wr.heap.size, 0, none⟩ = some (.int .i64 x1) := hg3.2.2.cell hne2 (by simp)
              have r4 : w3.cell? ⟨wr.heap.size, 1, none⟩ = some (.int .i64 x2) := hg3.2.2.cell hne2 (by simp)
              have HM3 := hidI (HM0.out.grew hg3)
              have HL3 : Hid (∀ f t, (m ++ putP f t).length ≤ 65537) := fun f t => by
                have h1 := HLN.out
                have h2 := putP_len f t
                rw [List.length_append]; omega
              clear hg3 q3 q4 hne hne2
              go_wp2_with fail
              refine (put_c v3 _ _ _ _ (by exact HM3.out.1) (by have := HL3.out x1 (min x2 s1); rw [e1] at this; omega)).mono ?_
              rintro E w4 ⟨v4, rfl, hg4⟩
              have HM4 := hidI (HM3.out.grew hg4)
              clear hg4
              go_wp2_with fail
              go_roundw
              case rel => exact ⟨k + 1, by omega, by go_num, by rw [HT.out, e1, e2]; exact HM4.out⟩
              case measure => simp [intOf]; omega
        · go_wp2_with fail
          go_ret2
          have := HM.out.base haw
          rw [List.take_of_length_le (by omega)] at this
          exact (show Ans w (true && isB (s1, s2)) _ _ _ by rw [hs]; exact Ans.yes this)
end Go.Proofs.YtkccpidgeecemaaGreatDoor.H
