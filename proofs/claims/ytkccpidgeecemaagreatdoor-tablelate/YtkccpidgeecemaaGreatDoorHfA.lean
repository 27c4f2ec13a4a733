/-
  Blocks of spans: reslices, copy, clear, an append of make; slices.overlaps.
-/
import Derived.Test.YtkccpidgeecemaaGreatDoorHBase
import Derived.Lib.Overlaps
import Derived.Lib.AppendZerosOnto
import Derived.Laws.CopyRow
import Derived.Laws.Externs
namespace Go.Proofs.YtkccpidgeecemaaGreatDoor.H
open Go.ChangeShapes Go.WideShapes Go.ChangeAt Go.RowKit
set_option linter.unusedVariables false
set_option maxHeartbeats 1000000 in
theorem isSpan_c (x : Sp) (w : World) : Calls Tryz.prog 105 #[valS x] w fun E w' => E = .returned (.bool (isB x)) ∧ Away [] w w' := by
  obtain ⟨f, t⟩ := x
  simp only [valS]
  by_cases h1 : 0 ≤ f
  · by_cases h2 : f < t
    · by_cases h3 : t ≤ 65535
      · have hR : Hid (isB (f, t) = true) := by show _ = _; rw [isB_iff]; exact ⟨h1, h2, h3⟩
        generalize isB (f, t) = R at *
        go_enter Tryz.func105, Tryz.ntmps105
        go_wp2
        go_ret
        exact ⟨by rw [hR.out]; first | rfl | simp, (Away.refl _ _).alloc _⟩
      · have hR : Hid (isB (f, t) = false) := by show _ = _; rw [Bool.eq_false_iff, ne_eq, isB_iff]; unfold Is; simp only; omega
        generalize isB (f, t) = R at *
        go_enter Tryz.func105, Tryz.ntmps105
        go_wp2
        go_ret
        exact ⟨by rw [hR.out]; first | rfl | simp, (Away.refl _ _).alloc _⟩
    · have hR : Hid (isB (f, t) = false) := by show _ = _; rw [Bool.eq_false_iff, ne_eq, isB_iff]; unfold Is; simp only; omega
      generalize isB (f, t) = R at *
      go_enter Tryz.func105, Tryz.ntmps105
      go_wp2
      go_ret
      exact ⟨by rw [hR.out]; first | rfl | simp, (Away.refl _ _).alloc _⟩
  · have hR : Hid (isB (f, t) = false) := by show _ = _; rw [Bool.eq_false_iff, ne_eq, isB_iff]; unfold Is; simp only; omega
    generalize isB (f, t) = R at *
    go_enter Tryz.func105, Tryz.ntmps105
    go_wp2
    go_ret
    exact ⟨by rw [hR.out]; first | rfl | simp, (Away.refl _ _).alloc _⟩
theorem take_snoc {l : List Sp} {k : Nat} {x : Sp} (h : l[k]? = some x) : l.take (k + 1) = l.take k ++ [x] := by
  have hk := get_lt h
  rw [List.take_succ_eq_append_getElem hk]
  rw [List.getElem?_eq_getElem hk] at h
  simp at h; rw [h]
def Mk (w w' : World) (v : Value) (l : List Sp) : Prop := Lst w' v l ∧ New w.heap.size v ∧ Away [] w w'
set_option maxHeartbeats 1000000 in
def Told (w : World) (b : Bool) (E : Ending) (w' : World) : Prop := E = .returned (.bool b) ∧ ∃ n, w' = w.drewN n
theorem Told.away {w w' : World} {b : Bool} {E : Ending} (h : Told w b E w') : E = .returned (.bool b) ∧ Away [] w w' := by
  obtain ⟨h1, n, rfl⟩ := h
  exact ⟨h1, (Away.refl _ _).drewN n⟩
def Grew (w w' : World) (v v' : Value) (l : List Sp) : Prop := Lst w' v' l ∧ Moved w v v' ∧ Away v.ownBlock.toList w w'
set_option maxHeartbeats 1000000 in
theorem put_c (v : Value) (l : List Sp) (f t : Int) (w : World) (hl : Lst w v l) (hlen : l.length < 8796093022208) :
    Calls Tryz.prog 106 #[v, .int .i64 f, .int .i64 t] w fun E w' => ∃ v', E = .returned v' ∧ Grew w w' v v' (l ++ putP f t) := by
  have HL : Hid (Lst w v l) := hl
  clear hl
  by_cases h : t ≤ f
  · have HP : Hid (putP f t = []) := by show _ = _; unfold putP; rw [if_neg (by omega)]
    go_enter Tryz.func106, Tryz.ntmps106
    go_wp2
    go_ret
    exact ⟨_, rfl, by rw [HP.out, List.append_nil]; exact HL.out, Moved.refl _ _, Away.refl _ _⟩
  · have HP : Hid (putP f t = [(f, t)]) := by show _ = _; unfold putP; rw [if_pos (by omega)]
    go_enter Tryz.func106, Tryz.ntmps106
    go_wp2_with (at_builtin; refine wpList_app2 rfl _ _ rfl _ l rfl (by exact HL.out.on ((Away.refl [] _).alloc _)) ⟨_, 0, none⟩ 1 rfl (f, t) (by rw [World.cell?_alloc_at (hn := rfl)]; rfl) (by rw [add_plain, World.cell?_alloc_at (hn := rfl)]; rfl) hlen ?_)
    intro v' w2 hown2 hgr hmov
    go_wp2
    go_ret
    refine ⟨_, rfl, by rw [HP.out]; exact hown2, fun k hk => ?_, ?_⟩
    · rcases hmov k hk with h1 | h1
      · exact .inl h1
      · right; simp at h1; omega
    · exact ((Away.refl _ _).alloc _).grown hgr (fun k hk => .inl (by simp [hk]))
theorem rf_at {l : List Sp} {k : Nat} {x : Sp} (h : l[k]? = some x) (e : Int) : rightFrom e (l.drop k) = (isB x && decide (e < x.1) && rightFrom x.2 (l.drop (k + 1))) := by
  have hk := get_lt h
  rw [List.drop_eq_getElem_cons hk]
  rw [List.getElem?_eq_getElem hk] at h
  simp at h; rw [h]; rfl
set_option maxHeartbeats 2000000 in
theorem right_c (a : Option Addr) (l : List Sp) (n cap : Nat) (w : World) (hn : l.length = n) (hr : Row w a l) :
    Calls Tryz.prog 100 #[.slice a n cap] w fun E w' => E = .returned (.bool (rightP l)) ∧ Away [] w w' := by
  subst hn
  have hlen := hr.1
  obtain ⟨z, hz⟩ : ∃ z, z = rightP l := ⟨_, rfl⟩
  rw [← hz]
  have HZ : Hid (z = rightP l) := hz
  clear hz
  go_enter Tryz.func100, Tryz.ntmps100
  go_wp2_with fail
  go_loopw [3, 8] (fun v i wr => ∃ (k : Nat) (e : Int), k ≤ l.length ∧ i = .int .i64 k ∧ v = .int .i64 e ∧ Away [] w wr ∧ rightP l = rightFrom e (l.drop k)) (fun _ i _ => l.length - (intOf i).toNat)
  case atStart => exact ⟨0, -1, by omega, rfl, rfl, Away.refl _ _, rfl⟩
  case round =>
    obtain ⟨k, e, hk, rfl, rfl, haw, hq⟩ := hrel
    have HQ : Hid (rightP l = rightFrom e (l.drop k)) := hq
    clear hq
    by_cases hlt : k < l.length
    · obtain ⟨x, hx, _⟩ := get_of hlt
      obtain ⟨b, off, rfl, c1, c2, -⟩ := (hr.on haw).at hx
      have HA : Hid (rightFrom e (l.drop k) = (isB x && decide (e < x.1) && rightFrom x.2 (l.drop (k + 1)))) := rf_at hx e
      clear hx
      obtain ⟨x1, x2⟩ := x
      simp only at c1 c2
      go_wp2_with fail
      refine (isSpan_c (x1, x2) _).mono ?_
      rintro E w2 ⟨rfl, haw2⟩
      have k1 : w2.cell? ⟨wr.heap.size, 0, none⟩ = some (.int .i64 x1) := haw2.cell (by simp) (by simp)
      have k2 : w2.cell? ⟨wr.heap.size, 1, none⟩ = some (.int .i64 x2) := haw2.cell (by simp) (by simp)
      have haw3 : Away [] w w2 := (haw.alloc _).trans haw2
      clear haw2
      cases hb : isB (x1, x2)
      · go_wp2_with fail
        go_ret
        exact ⟨by rw [HZ.out, HQ.out, HA.out, hb]; rfl, haw3⟩
      · by_cases he : e < x1
        · go_wp2_with fail
          go_roundw
          case rel => exact ⟨k + 1, x2, by omega, by go_num, rfl, haw3, by rw [HQ.out, HA.out, hb]; simp [he]⟩
          case measure => simp [intOf]; omega
        · go_wp2_with fail
          go_ret
          exact ⟨by rw [HZ.out, HQ.out, HA.out, hb, decide_eq_false (show ¬ e < x1 by omega)]; rfl, haw3⟩
    · go_wp2_with fail
      go_ret
      exact ⟨by rw [HZ.out, HQ.out, List.drop_eq_nil_of_le (by omega)]; rfl, haw⟩
end Go.Proofs.YtkccpidgeecemaaGreatDoor.H
namespace Go.Proofs.YtkccpidgeecemaaGreatDoor.H
open Go.ChangeShapes Go.WideShapes Go.ChangeAt Go.RowKit
set_option linter.unusedVariables false
theorem hidI {p : Prop} (h : p) : Hid p := h
theorem Mk.on {w0 w w' : World} {v : Value} {l : List Sp} (h : Mk w0 w v l) (hw : Away [] w w') : Mk w0 w' v l := ⟨h.1.on hw, h.2.1, h.2.2.trans hw⟩
theorem Mk.grew {w0 w w' : World} {v v' : Value} {l l' : List Sp} (h : Mk w0 w v l) (hg : Grew w w' v v' l') : Mk w0 w' v' l' :=
  ⟨hg.1, h.2.1.moved hg.2.1 h.2.2.size, h.2.2.next hg.2.2 (fun x hx => .inr (h.2.1 x (by simpa using hx)))⟩
theorem Mk.nil (w : World) : Mk w w (.slice none 0 0) [] := ⟨Lst.nil _, New.nil _, Away.refl _ _⟩
theorem Mk.base {w0 w1 w : World} {v : Value} {l : List Sp} (h : Mk w1 w v l) (hw : Away [] w0 w1) : Mk w0 w v l := ⟨h.1, h.2.1.mono hw.size, hw.trans h.2.2⟩
theorem putP_len (f t : Int) : (putP f t).length ≤ 1 := by unfold putP; split <;> simp
theorem cut_len (l : List Sp) (s : Sp) : (cutP l s).length ≤ 2 * l.length := by
  induction l with
  | nil => simp [cutP]
  | cons x r ih =>
    have hc : cutP (x :: r) s = putP x.1 (min x.2 s.1) ++ putP (max x.1 s.2) x.2 ++ cutP r s := by simp [cutP]
    have h1 := putP_len x.1 (min x.2 s.1)
    have h2 := putP_len (max x.1 s.2) x.2
    rw [hc, List.length_append, List.length_append, List.length_cons]
    omega
theorem cut_snoc {l : List Sp} {k : Nat} {x : Sp} (s : Sp) (h : l[k]? = some x) : cutP (l.take (k + 1)) s = (cutP (l.take k) s ++ putP x.1 (min x.2 s.1)) ++ putP (max x.1 s.2) x.2 := by
  rw [take_snoc h]; simp [cutP]
def Ans (w : World) (b : Bool) (r : List Sp) (E : Ending) (w' : World) : Prop :=
  if b = true then ∃ v, E = .returned (.tuple #[v, .int .i64 0]) ∧ Mk w w' v r else E = .returned (.tuple #[.slice none 0 0, .int .i64 1]) ∧ Away [] w w'
theorem Ans.yes {w w' : World} {r : List Sp} {v : Value} (h : Mk w w' v r) : Ans w true r (.returned (.tuple #[v, .int .i64 0])) w' := by unfold Ans; rw [if_pos rfl]; exact ⟨v, rfl, h⟩
theorem Ans.no {w w' : World} {r : List Sp} (h : Away [] w w') : Ans w false r (.returned (.tuple #[.slice none 0 0, .int .i64 1])) w' := by unfold Ans; rw [if_neg (by simp)]; exact ⟨rfl, h⟩
set_option maxHeartbeats 4000000 in
theorem cut_c (a : Option Addr) (l : List Sp) (s : Sp) (n cap : Nat) (w : World) (hn : l.length = n) (hr : Row w a l) :
    Calls Tryz.prog 98 #[.slice a n cap, valS s] w fun E w' => Ans w (rightP l && isB s) (cutP l s) E w' := by
  subst hn
  have hlen := hr.1
  have HR : Hid (Row w a l) := hr
  clear hr
  obtain ⟨s1, s2⟩ := s
  simp only [valS]
  cases hb : rightP l
  · go_enter Tryz.func98, Tryz.ntmps98
    go_wp2_with fail
    refine (right_c a l _ _ _ rfl (by exact HR.out.on ((Away.refl [] w).alloc _))).mono ?_
    rintro E w2 ⟨rfl, haw2⟩
    rw [hb]
    have haw3 : Away [] w w2 := ((Away.refl [] w).alloc _).trans haw2
    clear haw2
    go_wp2_with fail
    go_ret2
    exact Ans.no haw3
  · have hshort := right_short hb
    go_enter Tryz.func98, Tryz.ntmps98
    go_wp2_with fail
    refine (right_c a l _ _ _ rfl (by exact HR.out.on ((Away.refl [] w).alloc _))).mono ?_
    rintro E w2 ⟨rfl, haw2⟩
    rw [hb]
    have k1 : w2.cell? ⟨w.heap.size, 0, none⟩ = some (.int .i64 s1) := haw2.cell (by simp) (by simp)
    have k2 : w2.cell? ⟨w.heap.size, 1, none⟩ = some (.int .i64 s2) := haw2.cell (by simp) (by simp)
    have haw3 : Away [] w w2 := ((Away.refl [] w).alloc _).trans haw2
    clear haw2
    go_wp2_with fail
    refine (isSpan_c (s1, s2) _).mono ?_
    rintro E w1 ⟨rfl, haw4⟩
    have K1 := haw4.cell (by simp) k1
    have K2 := haw4.cell (by simp) k2
    have haw : Away [] w w1 := haw3.trans haw4
    clear haw3 haw4 k1 k2
    cases hs : isB (s1, s2)
    · go_wp2_with fail
      go_ret2
      exact (show Ans w (true && isB (s1, s2)) _ _ _ by rw [hs]; exact Ans.no haw)
    · go_wp2_with fail
      go_loopw [6, 19] (fun v i wr => ∃ k : Nat, k ≤ l.length ∧ i = .int .i64 k ∧ Mk w1 wr v (cutP (l.take k) (s1, s2))) (fun _ i _ => l.length - (intOf i).toNat)
      case atStart => exact ⟨0, by omega, rfl, Mk.nil _⟩
      case round =>
        obtain ⟨k, hk, rfl, hm⟩ := hrel
        have HM : Hid (Mk w1 wr u6 (cutP (l.take k) (s1, s2))) := hm
        have q1 := hm.2.2.cell (by simp) K1
        have q2 := hm.2.2.cell (by simp) K2
        by_cases hlt : k < l.length
        · obtain ⟨x, hx, _⟩ := get_of hlt
          obtain ⟨b, off, rfl, c1, c2, -⟩ := ((HR.out.on haw).on hm.2.2).at hx
          have HT : Hid (cutP (l.take (k + 1)) (s1, s2) = (cutP (l.take k) (s1, s2) ++ putP x.1 (min x.2 s1)) ++ putP (max x.1 s2) x.2) := cut_snoc (s1, s2) hx
          have HLN : Hid ((cutP (l.take k) (s1, s2)).length ≤ 65536) := by
            show _ ≤ _
            have := cut_len (l.take k) (s1, s2)
            have h2 : (l.take k).length ≤ l.length := by simp; omega
            omega
          clear hx hm
          obtain ⟨x1, x2⟩ := x
          simp only at c1 c2 HT
          generalize cutP (l.take k) (s1, s2) = m at *
          have q3 : (wr.alloc (.cells #[.int .i64 x1, .int .i64 x2] 112)).cell? ⟨w.heap.size, 0, none⟩ = some (.int .i64 s1) := ((Away.refl [] wr).alloc _).cell (by simp) q1
          have q4 : (wr.alloc (.cells #[.int .i64 x1, .int .i64 x2] 112)).cell? ⟨w.heap.size, 1, none⟩ = some (.int .i64 s2) := ((Away.refl [] wr).alloc _).cell (by simp) q2
          clear q1 q2
          have hm0 := HM.out.on ((Away.refl [] wr).alloc (.cells #[.int .i64 x1, .int .i64 x2] 112))
          have HM0 : Hid (Mk w1 (wr.alloc (.cells #[.int .i64 x1, .int .i64 x2] 112)) u6 m) := hm0
          have HB : Hid (∀ j, u6.ownBlock = some j → w1.heap.size ≤ j ∧ j < wr.heap.size) := fun j hj => ⟨hm0.2.1 j hj, HM.out.1.lt j hj⟩
          have hs1 := haw.size
          have hs2 := HM.out.2.2.size
          have HW0 : Hid (w.heap.size < w1.heap.size) := block_lt_of_cell K1
          clear hm0
          rcases (show (min x2 s1 = x2 ∧ x2 ≤ s1) ∨ (min x2 s1 = s1 ∧ s1 < x2) by omega) with ⟨e1, o1⟩ | ⟨e1, o1⟩
          · rcases (show (max x1 s2 = x1 ∧ s2 ≤ x1) ∨ (max x1 s2 = s2 ∧ x1 < s2) by omega) with ⟨e2, o2⟩ | ⟨e2, o2⟩
            · go_wp2_with fail
              refine (put_c u6 m _ _ _ (by exact HM0.out.1) (by have := HLN.out; omega)).mono ?_
              rintro E w3 ⟨v3, rfl, hg3⟩
              have hne : w.heap.size ∉ u6.ownBlock.toList := fun hx => by
                have h1 := HB.out w.heap.size (by simpa using hx)
                have h2 := HW0.out
                omega
              have hne2 : wr.heap.size ∉ u6.ownBlock.toList := fun hx => by
                have h1 := HB.out wr.heap.size (by simpa using hx)
                omega
              have r1 := hg3.2.2.cell hne q3
              have r2 := hg3.2.2.cell hne q4
              have r3 : w3.cell? ⟨wr.heap.size, 0, none⟩ = some (.int .i64 x1) := hg3.2.2.cell hne2 (by simp)
              have r4 : w3.cell? ⟨wr.heap.size, 1, none⟩ = some (.int .i64 x2) := hg3.2.2.cell hne2 (by simp)
              have HM3 := hidI (HM0.out.grew hg3)
              have HL3 : Hid (∀ f t, (m ++ putP f t).length ≤ 65537) := fun f t => by
                have h1 := HLN.out
                have h2 := putP_len f t
                rw [List.length_append]; omega
              clear hg3 q3 q4 hne hne2
              go_wp2_with fail
              refine (put_c v3 _ _ _ _ (by exact HM3.out.1) (by have := HL3.out x1 (min x2 s1); rw [e1] at this; omega)).mono ?_
              rintro E w4 ⟨v4, rfl, hg4⟩
              have HM4 := hidI (HM3.out.grew hg4)
              clear hg4
              go_wp2_with fail
              go_roundw
              case rel => exact ⟨k + 1, by omega, by go_num, by rw [HT.out, e1, e2]; exact HM4.out⟩
              case measure => simp [intOf]; omega
            · go_wp2_with fail
              refine (put_c u6 m _ _ _ (by exact HM0.out.1) (by have := HLN.out; omega)).mono ?_
              rintro E w3 ⟨v3, rfl, hg3⟩
              have hne : w.heap.size ∉ u6.ownBlock.toList := fun hx => by
                have h1 := HB.out w.heap.size (by simpa using hx)
                have h2 := HW0.out
                omega
              have hne2 : wr.heap.size ∉ u6.ownBlock.toList := fun hx => by
                have h1 := HB.out wr.heap.size (by simpa using hx)
                omega
              have r1 := hg3.2.2.cell hne q3
              have r2 := hg3.2.2.cell hne q4
              have r3 : w3.cell? ⟨wr.heap.size, 0, none⟩ = some (.int .i64 x1) := hg3.2.2.cell hne2 (by simp)
              have r4 : w3.cell? ⟨wr.heap.size, 1, none⟩ = some (.int .i64 x2) := hg3.2.2.cell hne2 (by simp)
              have HM3 := hidI (HM0.out.grew hg3)
              have HL3 : Hid (∀ f t, (m ++ putP f t).length ≤ 65537) := fun f t => by
                have h1 := HLN.out
                have h2 := putP_len f t
                rw [List.length_append]; omega
              clear hg3 q3 q4 hne hne2
              go_wp2_with fail
              refine (put_c v3 _ _ _ _ (by exact HM3.out.1) (by have := HL3.out x1 (min x2 s1); rw [e1] at this; omega)).mono ?_
              rintro E w4 ⟨v4, rfl, hg4⟩
              have HM4 := hidI (HM3.out.grew hg4)
              clear hg4
              go_wp2_with fail
              go_roundw
              case rel => exact ⟨k + 1, by omega, by go_num, by rw [HT.out, e1, e2]; exact HM4.out⟩
              case measure => simp [intOf]; omega
          · rcases (show (max x1 s2 = x1 ∧ s2 ≤ x1) ∨ (max x1 s2 = s2 ∧ x1 < s2) by omega) with ⟨e2, o2⟩ | ⟨e2, o2⟩
            · go_wp2_with fail
              refine (put_c u6 m _ _ _ (by exact HM0.out.1) (by have := HLN.out; omega)).mono ?_
              rintro E w3 ⟨v3, rfl, hg3⟩
              have hne : w.heap.size ∉ u6.ownBlock.toList := fun hx => by
                have h1 := HB.out w.heap.size (by simpa using hx)
                have h2 := HW0.out
                omega
              have hne2 : wr.heap.size ∉ u6.ownBlock.toList := fun hx => by
                have h1 := HB.out wr.heap.size (by simpa using hx)
                omega
              have r1 := hg3.2.2.cell hne q3
              have r2 := hg3.2.2.cell hne q4
              have r3 : w3.cell? ⟨wr.heap.size, 0, none⟩ = some (.int .i64 x1) := hg3.2.2.cell hne2 (by simp)
              have r4 : w3.cell? ⟨wr.heap.size, 1, none⟩ = some (.int .i64 x2) := hg3.2.2.cell hne2 (by simp)
              have HM3 := hidI (HM0.out.grew hg3)
              have HL3 : Hid (∀ f t, (m ++ putP f t).length ≤ 65537) := fun f t => by
                have h1 := HLN.out
                have h2 := putP_len f t
                rw [List.length_append]; omega
              clear hg3 q3 q4 hne hne2
              go_wp2_with fail
              refine (put_c v3 _ _ _ _ (by exact HM3.out.1) (by have := HL3.out x1 (min x2 s1); rw [e1] at this; omega)).mono ?_
              rintro E w4 ⟨v4, rfl, hg4⟩
              have HM4 := hidI (HM3.out.grew hg4)
              clear hg4
              go_wp2_with fail
              go_roundw
              case rel => exact ⟨k + 1, by omega, by go_num, by rw [HT.out, e1, e2]; exact HM4.out⟩
              case measure => simp [intOf]; omega
            · go_wp2_with fail
              refine (put_c u6 m _ _ _ (by exact HM0.out.1) (by have := HLN.out; omega)).mono ?_
              rintro E w3 ⟨v3, rfl, hg3⟩
              have hne : w.heap.size ∉ u6.ownBlock.toList := fun hx => by
                have h1 := HB.out w.heap.size (by simpa using hx)
                have h2 := HW0.out
                omega
              have hne2 : wr.heap.size ∉ u6.ownBlock.toList := fun hx => by
                have h1 := HB.out wr.heap.size (by simpa using hx)
                omega
              have r1 := hg3.2.2.cell hne q3
              have r2 := hg3.2.2.cell hne q4
              have r3 : w3.cell? ⟨wr.heap.size, 0, none⟩ = some (.int .i64 x1) := hg3.2.2.cell hne2 (by simp)
              have r4 : w3.cell? ⟨wr.heap.size, 1, none⟩ = some (.int .i64 x2) := hg3.2.2.cell hne2 (by simp)
              have HM3 := hidI (HM0.out.grew hg3)
              have HL3 : Hid (∀ f t, (m ++ putP f t).length ≤ 65537) := fun f t => by
                have h1 := HLN.out
                have h2 := putP_len f t
                rw [List.length_append]; omega
              clear hg3 q3 q4 hne hne2
              go_wp2_with fail
              refine (put_c v3 _ _ _ _ (by exact HM3.out.1) (by have := HL3.out x1 (min x2 s1); rw [e1] at this; omega)).mono ?_
              rintro E w4 ⟨v4, rfl, hg4⟩
              have HM4 := hidI (HM3.out.grew hg4)
              clear hg4
              go_wp2_with fail
              go_roundw
              case rel => exact ⟨k + 1, by omega, by go_num, by rw [HT.out, e1, e2]; exact HM4.out⟩
              case measure => simp [intOf]; omega
        · go_wp2_with fail
          go_ret2
          have := HM.out.base haw
          rw [List.take_of_length_le (by omega)] at this
          exact (show Ans w (true && isB (s1, s2)) _ _ _ by rw [hs]; exact Ans.yes this)
end Go.Proofs.YtkccpidgeecemaaGreatDoor.H
namespace Go.Proofs.YtkccpidgeecemaaGreatDoor.H
open Go.ChangeShapes Go.WideShapes Go.ChangeAt Go.RowKit
set_option linter.unusedVariables false
theorem drop_at {l : List Sp} {k : Nat} {x : Sp} (h : l[k]? = some x) : l.drop k = x :: l.drop (k + 1) := by
  have hk := get_lt h
  rw [List.drop_eq_getElem_cons hk]
  rw [List.getElem?_eq_getElem hk] at h
  simp at h; rw [h]
set_option maxHeartbeats 4000000 in
theorem has_c (a : Option Addr) (l : List Sp) (s : Sp) (n cap : Nat) (w : World) (hn : l.length = n) (hr : Row w a l) :
    Calls Tryz.prog 96 #[.slice a n cap, valS s] w fun E w' => E = .returned (.bool (rightP l && isB s && hasP l s)) ∧ Away [] w w' := by
  subst hn
  have hlen := hr.1
  have HR : Hid (Row w a l) := hr
  clear hr
  obtain ⟨s1, s2⟩ := s
  simp only [valS]
  obtain ⟨z, hz⟩ : ∃ z, z = (rightP l && isB (s1, s2) && hasP l (s1, s2)) := ⟨_, rfl⟩
  rw [← hz]
  have HZ : Hid (z = (rightP l && isB (s1, s2) && hasP l (s1, s2))) := hz
  clear hz
  cases hb : rightP l
  · go_enter Tryz.func96, Tryz.ntmps96
    go_wp2_with fail
    refine (right_c a l _ _ _ rfl (by exact HR.out.on ((Away.refl [] w).alloc _))).mono ?_
    rintro E w2 ⟨rfl, haw2⟩
    rw [hb]
    have haw3 : Away [] w w2 := ((Away.refl [] w).alloc _).trans haw2
    clear haw2
    go_wp2_with fail
    go_ret
    exact ⟨by rw [HZ.out, hb]; rfl, haw3⟩
  · go_enter Tryz.func96, Tryz.ntmps96
    go_wp2_with fail
    refine (right_c a l _ _ _ rfl (by exact HR.out.on ((Away.refl [] w).alloc _))).mono ?_
    rintro E w2 ⟨rfl, haw2⟩
    rw [hb]
    have k1 : w2.cell? ⟨w.heap.size, 0, none⟩ = some (.int .i64 s1) := haw2.cell (by simp) (by simp)
    have k2 : w2.cell? ⟨w.heap.size, 1, none⟩ = some (.int .i64 s2) := haw2.cell (by simp) (by simp)
    have haw3 : Away [] w w2 := ((Away.refl [] w).alloc _).trans haw2
    clear haw2
    go_wp2_with fail
    refine (isSpan_c (s1, s2) _).mono ?_
    rintro E w1 ⟨rfl, haw4⟩
    have K1 := haw4.cell (by simp) k1
    have K2 := haw4.cell (by simp) k2
    have haw : Away [] w w1 := haw3.trans haw4
    clear haw3 haw4 k1 k2
    cases hs : isB (s1, s2)
    · go_wp2_with fail
      go_ret
      exact ⟨by rw [HZ.out, hb, hs]; rfl, haw⟩
    · have HZ2 : Hid (z = hasP l (s1, s2)) := by show _ = _; rw [HZ.out, hb, hs]; rfl
      clear HZ
      go_wp2_with fail
      go_loopw [17] (fun i wr => ∃ k : Nat, k ≤ l.length ∧ i = .int .i64 k ∧ Away [] w1 wr ∧ hasP l (s1, s2) = hasP (l.drop k) (s1, s2)) (fun i _ => l.length - (intOf i).toNat)
      case atStart => exact ⟨0, by omega, rfl, Away.refl _ _, rfl⟩
      case round =>
        obtain ⟨k, hk, rfl, hm, hq⟩ := hrel
        have HQ : Hid (hasP l (s1, s2) = hasP (l.drop k) (s1, s2)) := hq
        clear hq
        have q1 := hm.cell (by simp) K1
        have q2 := hm.cell (by simp) K2
        by_cases hlt : k < l.length
        · obtain ⟨x, hx, _⟩ := get_of hlt
          obtain ⟨b, off, rfl, c1, c2, -⟩ := ((HR.out.on haw).on hm).at hx
          obtain ⟨x1, x2⟩ := x
          simp only at c1 c2
          have q3 : (wr.alloc (.cells #[.int .i64 x1, .int .i64 x2] 112)).cell? ⟨w.heap.size, 0, none⟩ = some (.int .i64 s1) := ((Away.refl [] wr).alloc _).cell (by simp) q1
          have q4 : (wr.alloc (.cells #[.int .i64 x1, .int .i64 x2] 112)).cell? ⟨w.heap.size, 1, none⟩ = some (.int .i64 s2) := ((Away.refl [] wr).alloc _).cell (by simp) q2
          clear q1 q2
          have HA : Hid (hasP (l.drop k) (s1, s2) = (decide (x1 ≤ s1 ∧ s2 ≤ x2) || hasP (l.drop (k + 1)) (s1, s2))) := by show _ = _; rw [drop_at hx]; rfl
          clear hx
          by_cases h1 : x1 ≤ s1
          · by_cases h2 : s2 ≤ x2
            · have HS : Hid (decide (x1 ≤ s1 ∧ s2 ≤ x2) = true) := by show _ = _; simp; omega
              go_wp2_with fail
              go_ret
              exact ⟨by rw [HZ2.out, HQ.out, HA.out, HS.out]; rfl, (haw.trans hm).alloc _⟩
            · have HS : Hid (decide (x1 ≤ s1 ∧ s2 ≤ x2) = false) := by show _ = _; simp; omega
              go_wp2_with fail
              go_roundw
              case rel => exact ⟨k + 1, by omega, by go_num, hm.alloc _, by rw [HQ.out, HA.out, HS.out]; rfl⟩
              case measure => simp [intOf]; omega
          · have HS : Hid (decide (x1 ≤ s1 ∧ s2 ≤ x2) = false) := by show _ = _; simp; omega
            go_wp2_with fail
            go_roundw
            case rel => exact ⟨k + 1, by omega, by go_num, hm.alloc _, by rw [HQ.out, HA.out, HS.out]; rfl⟩
            case measure => simp [intOf]; omega
        · go_wp2_with fail
          go_ret
          exact ⟨by rw [HZ2.out, HQ.out, List.drop_eq_nil_of_le (by omega)]; rfl, haw.trans hm⟩
theorem len_snoc {l : List Sp} {k : Nat} {x : Sp} (h : l[k]? = some x) : lenP (l.take (k + 1)) = lenP (l.take k) + (x.2 - x.1) := by
  rw [take_snoc h]; unfold lenP; simp
theorem len_bound : ∀ (l : List Sp), (∀ s ∈ l, Is s) → 0 ≤ lenP l ∧ lenP l ≤ 65535 * l.length
  | [], h => by simp [lenP]
  | x :: r, h => by
    have h1 := h x (by simp)
    have h2 := len_bound r (fun s hs => h s (by simp [hs]))
    unfold Is at h1
    have e : lenP (x :: r) = x.2 - x.1 + lenP r := by simp [lenP]
    rw [e, List.length_cons]
    push_cast
    omega
end Go.Proofs.YtkccpidgeecemaaGreatDoor.H
namespace Go.Proofs.YtkccpidgeecemaaGreatDoor.H
open Go.ChangeShapes Go.WideShapes Go.ChangeAt Go.RowKit
set_option linter.unusedVariables false
set_option maxRecDepth 20000
set_option linter.unusedSimpArgs false
theorem size50 (wx : World) : (sizeOf (Tryz.prog.elem 102)).run Tryz.prog wx = .ok 2 wx := by kernel_rfl
theorem under27 : Tryz.prog.underlying 102 = some (.slice (Tryz.prog.elem 102)) := by kernel_rfl
theorem slice_lh (a A : Option Addr) (len cap k m : Nat) (lo hi : Int) (hA : A = if cap = k then a else a.map (·.add (k * 2))) (hlo : lo = k) (hhi : hi = k + m) (hm : k + m ≤ cap) (wx : World) :
    (Instr.sliceAt 102 (.slice a len cap) (some (.int .i64 lo)) (some (.int .i64 hi)) none).run Tryz.prog wx = .ok (.slice A m (cap - k)) wx := by
  subst hlo; subst hhi; subst hA
  rw [run_sliceAt_slice (h := under27), run_slice_lh (ht := under27) (h0 := by omega) (h1 := by omega) (h2 := by omega), size50]
  simp only [Result.andThen, sliced]
  rw [show (k : Int).toNat = k from by omega, show ((k : Int) + m).toNat = k + m from by omega, show k + m - k = m from by omega]
theorem slice_l (a A : Option Addr) (len cap k : Nat) (lo : Int) (hA : A = if cap = k then a else a.map (·.add (k * 2))) (hlo : lo = k) (hm : k ≤ len) (wx : World) :
    (Instr.sliceAt 102 (.slice a len cap) (some (.int .i64 lo)) none none).run Tryz.prog wx = .ok (.slice A (len - k) (cap - k)) wx := by
  subst hlo; subst hA
  rw [run_sliceAt_slice (h := under27), run_slice_l (ht := under27) (h0 := by omega) (h1 := by omega), size50]
  simp only [Result.andThen, sliced]
  rw [show (k : Int).toNat = k from by omega]
theorem slice_h (a : Option Addr) (len cap m : Nat) (hi : Int) (hhi : hi = m) (hm : m ≤ cap) (wx : World) :
    (Instr.sliceAt 102 (.slice a len cap) none (some (.int .i64 hi)) none).run Tryz.prog wx = .ok (.slice a m cap) wx := by
  subst hhi
  rw [run_sliceAt_slice (h := under27), run_slice_h (ht := under27) (h0 := by omega) (h2 := by omega), size50]
  simp only [Result.andThen, sliced]
  rw [show (m : Int).toNat = m from by omega]
  simp [Addr.add]
def Blk (w : World) (g cap : Nat) (cur : List Value) : Prop := w.heap[g]? = some (.cells cur.toArray 112 (0, 0)) ∧ cur.length = cap * 2
theorem Blk.away {S : List Nat} {w w' : World} {g cap : Nat} {cur : List Value} (h : Blk w g cap cur) (hw : Away S w w') (hg : g ∉ S) : Blk w' g cap cur := ⟨hw.keep hg h.1, h.2⟩
theorem Blk.lst {w : World} {g n cap : Nat} {l : List Sp} {cur : List Value} (h : Blk w g cap cur) (hc : cap ≤ maxLen) (hn : l.length = n) (hnc : n ≤ cap) (ht : cur.take (n * 2) = l.flatMap encS) : Lst w (.slice (some ⟨g, 0, none⟩) n cap) l := by
  subst hn
  exact ⟨flat_two l, .inr ⟨g, cap, cur.toArray, rfl, Nat.zero_le _, h.1, hnc, hc, by simpa using h.2, by simpa using ht⟩⟩
theorem Lst.blk {w : World} {g n cap : Nat} {l : List Sp} (h : Lst w (.slice (some ⟨g, 0, none⟩) n cap) l) : ∃ cur, Blk w g cap cur ∧ cap ≤ maxLen ∧ n ≤ cap ∧ cur.take (n * 2) = l.flatMap encS ∧ l.length = n := by
  rcases h.2 with ⟨h2, _⟩ | ⟨g', cap', cur, he, hg, hh, hn, hc, hs, ht⟩
  · simp at h2
  · simp only [Value.slice.injEq, Option.some.injEq, Addr.mk.injEq] at he
    obtain ⟨⟨rfl, -, -⟩, rfl, rfl⟩ := he
    exact ⟨cur.toList, ⟨by simpa using hh, by simpa using hs⟩, hc, hn, ht, rfl⟩
theorem Blk.cell {w : World} {g cap : Nat} {cur : List Value} (h : Blk w g cap cur) (i : Nat) : w.cell? ⟨g, i, none⟩ = cur[i]? := by rw [cell_of_block h.1]; simp
def fromA (g cap o : Nat) : Option Addr := if cap = o then some ⟨g, 0, none⟩ else some ⟨g, o * 2, none⟩
theorem fromA_eq (g cap o : Nat) : fromA g cap o = if cap = o then some ⟨g, 0, none⟩ else (some (⟨g, 0, none⟩ : Addr)).map (·.add (o * 2)) := by
  unfold fromA; simp [add_plain]
def over (cur : List Value) (o : Nat) (xs : List Value) : List Value := cur.take (o * 2) ++ xs ++ cur.drop (o * 2 + xs.length)
theorem over_len {cur xs : List Value} {o : Nat} (h : o * 2 + xs.length ≤ cur.length) : (over cur o xs).length = cur.length := by
  unfold over; simp; omega
theorem over_nil (cur : List Value) (o : Nat) : over cur o [] = cur := by simp [over]
theorem over_get {cur xs : List Value} {o : Nat} (h : o * 2 + xs.length ≤ cur.length) (i : Nat) : (over cur o xs)[i]? = if i < o * 2 then cur[i]? else if i < o * 2 + xs.length then xs[i - o * 2]? else cur[i]? := by
  unfold over
  have hl : (cur.take (o * 2)).length = o * 2 := by simp; omega
  by_cases h1 : i < o * 2
  · rw [if_pos h1, List.append_assoc, List.getElem?_append_left (by omega), List.getElem?_take, if_pos h1]
  · rw [if_neg h1, List.append_assoc, List.getElem?_append_right (by omega), hl]
    by_cases h2 : i < o * 2 + xs.length
    · rw [if_pos h2, List.getElem?_append_left (by omega)]
    · rw [if_neg h2, List.getElem?_append_right (by omega), List.getElem?_drop]
      congr 1; omega
theorem Blk.set {w : World} {g cap o : Nat} {cur xs : List Value} (h : Blk w g cap cur) (hf : o * 2 + xs.length ≤ cur.length) (h1 : ∀ v ∈ xs, v.oneCell' = true) :
    (storeCells ⟨g, o * 2, none⟩ xs 0).run Tryz.prog w = .ok () (w.setRow g (over cur o xs).toArray) ∧ Blk (w.setRow g (over cur o xs).toArray) g cap (over cur o xs) := by
  have := run_storeCells_at Tryz.prog g (o * 2) 112 xs 0 cur.toArray w h.1 (by simpa using hf) h1
  refine ⟨by simpa [over] using this, setRow_heap w g _ _ 112 _ h.1, by rw [over_len hf]; exact h.2⟩
def Src (w : World) (ad : Option Addr) (xs : List Value) : Prop := xs = [] ∨ ∃ p, ad = some p ∧ ∀ j u, xs[j]? = some u → w.cell? (p.add j) = some u
theorem run_copyB (w : World) (ty : TypeId) (g cap o n c k sc : Nat) (cur xs : List Value) (D ad : Option Addr) (hD : D = fromA g cap o) (hb : Blk w g cap cur) (hn : o + n ≤ cap) (hk : xs.length = k * 2) (hkn : k ≤ n) (hs : Src w ad xs) (hnil : ad = none → k = 0)
    (h1 : ∀ v ∈ xs, v.oneCell' = true) :
    ∃ w', (Builtin.copy_ #[102, 102] ty #[.slice D n c, .slice ad k sc]).run Tryz.prog w = .ok (goInt k) w' ∧ Blk w' g cap (over cur o xs) ∧ Away [g] w w' := by
  obtain ⟨i0, hi, hz0, hz1, hz2⟩ := info_parts info50
  have hmin : Nat.min k n = k := Nat.min_eq_left hkn
  subst hD
  rcases Nat.eq_zero_or_pos k with rfl | hpos
  · obtain rfl : xs = [] := List.eq_nil_of_length_eq_zero (by simpa using hk)
    refine ⟨w, ?_, by rw [over_nil]; exact hb, Away.refl _ _⟩
    have hl : ∀ p : Addr, (loadCells p 0).run Tryz.prog w = .ok #[] w := fun p => by
      have := run_loadCells_list (P := Tryz.prog) w p [] (by simp)
      simpa using this
    have hm : Nat.min 0 n = 0 := Nat.zero_min n
    unfold fromA
    rcases ad with _ | ad <;> (split <;> simp [Builtin.copy_, run_underlying Tryz.underlying102, Builtin.lenOf, Builtin.firstCells, sizeOf, typeInfo, hi, hm, hl, storeCells])
  · have hx : xs ≠ [] := fun e => by rw [e] at hk; simp at hk; omega
    rcases hs with rfl | ⟨p, rfl, hsrc⟩
    · exact absurd rfl hx
    · have hl := run_loadCells_list (P := Tryz.prog) w p xs hsrc
      rw [hk] at hl
      obtain ⟨r1, r2⟩ := hb.set (o := o) (xs := xs) (by have := hb.2; omega) h1
      refine ⟨_, ?_, r2, (Away.refl _ _).setRow (.inl (by simp)) _⟩
      unfold fromA
      rw [if_neg (by omega)]
      simp [Builtin.copy_, run_underlying Tryz.underlying102, Builtin.lenOf, Builtin.firstCells, sizeOf, typeInfo, hi, hz1, hmin, hl, r1]
def noughts (n : Nat) : List Value := (Builtin.zeroCells (Value.agg #[.int .i64 0, .int .i64 0]).cells n).toList
theorem noughts_len (n : Nat) : (noughts n).length = n * 2 := by simp [noughts, Builtin.zeroCells, Value.cells]
theorem noughts_one (n : Nat) : ∀ v ∈ noughts n, v.oneCell' = true := by
  intro v hv
  simp only [noughts, Builtin.zeroCells, Value.cells, Array.toList_map, List.mem_map] at hv
  obtain ⟨i, -, rfl⟩ := hv
  have h2 : i % 2 = 0 ∨ i % 2 = 1 := by omega
  rcases h2 with h | h <;> simp [h, Value.oneCell']
theorem run_clearB (w : World) (ty : TypeId) (g cap o n c : Nat) (cur : List Value) (D : Option Addr) (hD : D = fromA g cap o) (hb : Blk w g cap cur) (hn : o + n ≤ cap) :
    ∃ w', (Builtin.clear_ #[102] ty #[.slice D n c]).run Tryz.prog w = .ok (.tuple #[]) w' ∧ Blk w' g cap (over cur o (noughts n)) ∧ Away [g] w w' := by
  obtain ⟨i0, hi, hz0, hz1, hz2⟩ := info_parts info50
  subst hD
  rcases n with _ | n
  · refine ⟨w, ?_, by rw [show noughts 0 = [] from List.eq_nil_of_length_eq_zero (by rw [noughts_len]), over_nil]; exact hb, Away.refl _ _⟩
    unfold fromA
    split <;> simp [Builtin.clear_, run_underlying Tryz.underlying102]
  · obtain ⟨r1, r2⟩ := hb.set (o := o) (xs := noughts (n + 1)) (by have := hb.2; rw [noughts_len]; omega) (noughts_one _)
    refine ⟨_, ?_, r2, (Away.refl _ _).setRow (.inl (by simp)) _⟩
    unfold fromA
    rw [if_neg (by omega)]
    unfold noughts at r1
    simp [Builtin.clear_, run_underlying Tryz.underlying102, zeroValue, typeInfo, hi, hz0, r1, noughts]
theorem run_makeB (w : World) (ty : TypeId) (g cap i k : Nat) (cur : List Value) (hb : Blk w g cap cur) (hi' : i ≤ cap) (hk : 0 < k) (hg : cap < i + k) (hs : i + k ≤ 8796093022208) :
    ∃ w' cap', (∀ K : Int, K = k → (Builtin.append_ #[102, 3] ty #[.slice (some ⟨g, 0, none⟩) i cap, .int .i64 K]).run Tryz.prog w = .ok (.slice (some ⟨w.heap.size, 0, none⟩) (i + k) cap') w') ∧
      Blk w' w.heap.size cap' (cur.take (i * 2) ++ noughts (cap' - i)) ∧ i + k ≤ cap' ∧ cap' ≤ maxLen ∧ Away [] w w' := by
  obtain ⟨i0, hi, hz0, hz1, hz2⟩ := info_parts info50
  have htn : Tryz.prog.underlying 3 = some (.int .i64) := by kernel_rfl
  have hlen : (cur.take (i * 2)).length = i * 2 := by have := hb.2; simp; omega
  have hold : (Builtin.firstCells i0.size i (.slice (some ⟨g, 0, none⟩) i cap)).run Tryz.prog w.drew = .ok (cur.take (i * 2)).toArray w.drew := by
    have := run_loadCells_list (P := Tryz.prog) w.drew ⟨g, 0, none⟩ (cur.take (i * 2)) (fun j u hj => by
      rw [add_plain, Nat.zero_add]
      have hc := hb.cell j
      show w.cell? _ = _
      rw [hc]
      rw [List.getElem?_take] at hj
      split at hj
      · exact hj
      · simp at hj)
    rw [hlen] at this
    simpa [Builtin.firstCells, hz1] using this
  have hge := grownCap_ge w (i + k) cap 112
  have hr := Lib.run_append_grow_zeros (P := Tryz.prog) w 102 3 ty 112 i0 _ .i64 .i64 Tryz.underlying102 htn hi hz0 (some ⟨g, 0, none⟩) i cap (cur.take (i * 2)) hold k hk (by rw [hz1]; omega) hg (by omega) (by rw [hz2]; omega) (by rw [hz2]; exact growslice_fits hg (by omega))
  refine ⟨_, _, fun K hK => by rw [hK]; exact hr, ⟨?_, ?_⟩, hge, grownCap_le_maxLen w (i + k) cap 112 (by unfold maxLen; omega), ((Away.refl _ _).drew).alloc _⟩
  · have e : (cur.take (i * 2)).toArray ++ Builtin.zeroCells (Value.agg #[.int .i64 0, .int .i64 0]).cells k ++ Builtin.zeroCells (Value.agg #[.int .i64 0, .int .i64 0]).cells (grownCap w (i + k) cap 112 - (i + k)) = (cur.take (i * 2) ++ noughts (grownCap w (i + k) cap 112 - i)).toArray := by
      apply Array.toList_inj.1
      simp only [Array.toList_append, List.append_assoc]
      congr 1
      have e2 : grownCap w (i + k) cap 112 - i = k + (grownCap w (i + k) cap 112 - (i + k)) := by omega
      rw [e2]
      generalize grownCap w (i + k) cap 112 - (i + k) = q
      unfold noughts Builtin.zeroCells
      simp only [Value.cells, Array.toList_map, Array.toList_range, List.size_toArray, List.length_cons, List.length_nil]
      rw [show (k + q) * (0 + 1 + 1) = k * (0 + 1 + 1) + q * (0 + 1 + 1) from by omega, List.range_add, List.map_append]
      congr 1
      rw [List.map_map]
      apply List.map_congr_left
      intro x _
      simp only [Function.comp_apply]
      congr 1
      omega
    rw [← e]
    exact heap_alloc_new w.drew _
  · rw [List.length_append, hlen, noughts_len]; omega
theorem overlaps_c (w : World) (g cap o n c : Nat) (cur cur' : List Value) (D : Option Addr) (hD : D = fromA g cap o) (hb : Blk w g cap cur) (g' cap' m : Nat) (hb' : Blk w g' cap' cur') (hne : g ≠ g') (hc : cap' ≠ 0) :
    (callFunc 108 #[.slice D n c, .slice (some ⟨g', 0, none⟩) m cap']).run Tryz.prog w = .ok (.value (.bool false)) w := by
  subst hD
  rw [run_callFunc_extern Tryz.func108 (by kernel_rfl) (by kernel_rfl) (by kernel_rfl) (e := Extern.SlicesOverlaps.overlaps #[102, 102] #[4]) (by kernel_rfl)]
  have hsh : w.shape? g = some (112, cur.length) := by simp [World.shape?, hb.1]
  have hsh' : w.shape? g' = some (112, cur'.length) := by simp [World.shape?, hb'.1]
  have hz : ∀ w, (Go.sizeOf 112).run Tryz.prog w = .ok 2 w := fun w => by kernel_rfl
  have key : ∀ p : Addr, p.block = g → w.frozen? p = false → (Extern.SlicesOverlaps.overlaps #[102, 102] #[4] #[.slice (some p) n c, .slice (some ⟨g', 0, none⟩) m cap']).run Tryz.prog w = .ok (.bool false) w := fun p hp hf => by
    exact Lib.run_overlaps_apart w 102 4 112 Tryz.underlying102 2 hz p ⟨g', 0, none⟩ n c m cap' (by rw [hp]; exact hne) 112 112 cur.length cur'.length (by rw [hp]; exact hsh) hsh' (by have := hb'.2; omega) hf (by rw [hp]; exact free_of_block hb.1 _)
  unfold fromA
  split
  · rw [key _ rfl (free_of_block hb.1 _)]; rfl
  · rw [key _ rfl (free_of_block hb.1 _)]; rfl
end Go.Proofs.YtkccpidgeecemaaGreatDoor.H
