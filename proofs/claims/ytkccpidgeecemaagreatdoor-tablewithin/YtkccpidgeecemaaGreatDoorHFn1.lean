/-
  The small functions: isSpan, own, same, put, Right.
-/
import Derived.Test.YtkccpidgeecemaaGreatDoorHBase
namespace Go.Proofs.YtkccpidgeecemaaGreatDoor.H
open Go.ChangeShapes Go.WideShapes Go.ChangeAt Go.RowKit
set_option linter.unusedVariables false

set_option maxHeartbeats 1000000 in
theorem isSpan_c (x : Sp) (w : World) : Calls Tryz.prog 105 #[valS x] w fun E w' => E = .returned (.bool (isB x)) ∧ Away [] w w' := by
  obtain ⟨f, t⟩ := x
  simp only [valS]
  by_cases h1 : 0 ≤ f
  · by_cases h2 : f < t
    · by_cases h3 : t ≤ 65535
      · have hR : Hid (isB (f, t) = true) := by show _ = _; rw [isB_iff]; exact ⟨h1, h2, h3⟩
        generalize isB (f, t) = R at *
        go_enter Tryz.func105, Tryz.ntmps105
        go_wp2
        go_ret
        exact ⟨by rw [hR.out]; first | rfl | simp, (Away.refl _ _).alloc _⟩
      · have hR : Hid (isB (f, t) = false) := by show _ = _; rw [Bool.eq_false_iff, ne_eq, isB_iff]; unfold Is; simp only; omega
        generalize isB (f, t) = R at *
        go_enter Tryz.func105, Tryz.ntmps105
        go_wp2
        go_ret
        exact ⟨by rw [hR.out]; first | rfl | simp, (Away.refl _ _).alloc _⟩
    · have hR : Hid (isB (f, t) = false) := by show _ = _; rw [Bool.eq_false_iff, ne_eq, isB_iff]; unfold Is; simp only; omega
      generalize isB (f, t) = R at *
      go_enter Tryz.func105, Tryz.ntmps105
      go_wp2
      go_ret
      exact ⟨by rw [hR.out]; first | rfl | simp, (Away.refl _ _).alloc _⟩
  · have hR : Hid (isB (f, t) = false) := by show _ = _; rw [Bool.eq_false_iff, ne_eq, isB_iff]; unfold Is; simp only; omega
    generalize isB (f, t) = R at *
    go_enter Tryz.func105, Tryz.ntmps105
    go_wp2
    go_ret
    exact ⟨by rw [hR.out]; first | rfl | simp, (Away.refl _ _).alloc _⟩

theorem take_snoc {l : List Sp} {k : Nat} {x : Sp} (h : l[k]? = some x) : l.take (k + 1) = l.take k ++ [x] := by
  have hk := get_lt h
  rw [List.take_succ_eq_append_getElem hk]
  rw [List.getElem?_eq_getElem hk] at h
  simp at h; rw [h]
/-- What makes a list: of its own, in new memory. -/
def Mk (w w' : World) (v : Value) (l : List Sp) : Prop := Lst w' v l ∧ New w.heap.size v ∧ Away [] w w'
set_option maxHeartbeats 1000000 in
/-- It answered, and drew. -/
def Told (w : World) (b : Bool) (E : Ending) (w' : World) : Prop := E = .returned (.bool b) ∧ ∃ n, w' = w.drewN n
theorem Told.away {w w' : World} {b : Bool} {E : Ending} (h : Told w b E w') : E = .returned (.bool b) ∧ Away [] w w' := by
  obtain ⟨h1, n, rfl⟩ := h
  exact ⟨h1, (Away.refl _ _).drewN n⟩
/-- A list that grew. -/
def Grew (w w' : World) (v v' : Value) (l : List Sp) : Prop := Lst w' v' l ∧ Moved w v v' ∧ Away v.ownBlock.toList w w'
set_option maxHeartbeats 1000000 in
theorem put_c (v : Value) (l : List Sp) (f t : Int) (w : World) (hl : Lst w v l) (hlen : l.length < 8796093022208) :
    Calls Tryz.prog 106 #[v, .int .i64 f, .int .i64 t] w fun E w' => ∃ v', E = .returned v' ∧ Grew w w' v v' (l ++ putP f t) := by
  have HL : Hid (Lst w v l) := hl
  clear hl
  by_cases h : t ≤ f
  · have HP : Hid (putP f t = []) := by show _ = _; unfold putP; rw [if_neg (by omega)]
    go_enter Tryz.func106, Tryz.ntmps106
    go_wp2
    go_ret
    exact ⟨_, rfl, by rw [HP.out, List.append_nil]; exact HL.out, Moved.refl _ _, Away.refl _ _⟩
  · have HP : Hid (putP f t = [(f, t)]) := by show _ = _; unfold putP; rw [if_pos (by omega)]
    go_enter Tryz.func106, Tryz.ntmps106
    go_wp2_with (at_builtin; refine wpList_app2 rfl _ _ rfl _ l rfl (by exact HL.out.on ((Away.refl [] _).alloc _)) ⟨_, 0, none⟩ 1 rfl (f, t) (by rw [World.cell?_alloc_at (hn := rfl)]; rfl) (by rw [add_plain, World.cell?_alloc_at (hn := rfl)]; rfl) hlen ?_)
    intro v' w2 hown2 hgr hmov
    go_wp2
    go_ret
    refine ⟨_, rfl, by rw [HP.out]; exact hown2, fun k hk => ?_, ?_⟩
    · rcases hmov k hk with h1 | h1
      · exact .inl h1
      · right; simp at h1; omega
    · exact ((Away.refl _ _).alloc _).grown hgr (fun k hk => .inl (by simp [hk]))

theorem rf_at {l : List Sp} {k : Nat} {x : Sp} (h : l[k]? = some x) (e : Int) : rightFrom e (l.drop k) = (isB x && decide (e < x.1) && rightFrom x.2 (l.drop (k + 1))) := by
  have hk := get_lt h
  rw [List.drop_eq_getElem_cons hk]
  rw [List.getElem?_eq_getElem hk] at h
  simp at h; rw [h]; rfl
set_option maxHeartbeats 2000000 in
theorem right_c (a : Option Addr) (l : List Sp) (n cap : Nat) (w : World) (hn : l.length = n) (hr : Row w a l) :
    Calls Tryz.prog 100 #[.slice a n cap] w fun E w' => E = .returned (.bool (rightP l)) ∧ Away [] w w' := by
  subst hn
  have hlen := hr.1
  obtain ⟨z, hz⟩ : ∃ z, z = rightP l := ⟨_, rfl⟩
  rw [← hz]
  have HZ : Hid (z = rightP l) := hz
  clear hz
  go_enter Tryz.func100, Tryz.ntmps100
  go_wp2_with fail
  go_loopw [3, 8] (fun v i wr => ∃ (k : Nat) (e : Int), k ≤ l.length ∧ i = .int .i64 k ∧ v = .int .i64 e ∧ Away [] w wr ∧ rightP l = rightFrom e (l.drop k)) (fun _ i _ => l.length - (intOf i).toNat)
  case atStart => exact ⟨0, -1, by omega, rfl, rfl, Away.refl _ _, rfl⟩
  case round =>
    obtain ⟨k, e, hk, rfl, rfl, haw, hq⟩ := hrel
    have HQ : Hid (rightP l = rightFrom e (l.drop k)) := hq
    clear hq
    by_cases hlt : k < l.length
    · obtain ⟨x, hx, _⟩ := get_of hlt
      obtain ⟨b, off, rfl, c1, c2, -⟩ := (hr.on haw).at hx
      have HA : Hid (rightFrom e (l.drop k) = (isB x && decide (e < x.1) && rightFrom x.2 (l.drop (k + 1)))) := rf_at hx e
      clear hx
      obtain ⟨x1, x2⟩ := x
      simp only at c1 c2
      go_wp2_with fail
      refine (isSpan_c (x1, x2) _).mono ?_
      rintro E w2 ⟨rfl, haw2⟩
      have k1 : w2.cell? ⟨wr.heap.size, 0, none⟩ = some (.int .i64 x1) := haw2.cell (by simp) (by simp)
      have k2 : w2.cell? ⟨wr.heap.size, 1, none⟩ = some (.int .i64 x2) := haw2.cell (by simp) (by simp)
      have haw3 : Away [] w w2 := (haw.alloc _).trans haw2
      clear haw2
      cases hb : isB (x1, x2)
      · go_wp2_with fail
        go_ret
        exact ⟨by rw [HZ.out, HQ.out, HA.out, hb]; rfl, haw3⟩
      · by_cases he : e < x1
        · go_wp2_with fail
          go_roundw
          case rel => exact ⟨k + 1, x2, by omega, by go_num, rfl, haw3, by rw [HQ.out, HA.out, hb]; simp [he]⟩
          case measure => simp [intOf]; omega
        · go_wp2_with fail
          go_ret
          exact ⟨by rw [HZ.out, HQ.out, HA.out, hb, decide_eq_false (show ¬ e < x1 by omega)]; rfl, haw3⟩
    · go_wp2_with fail
      go_ret
      exact ⟨by rw [HZ.out, HQ.out, List.drop_eq_nil_of_le (by omega)]; rfl, haw⟩
end Go.Proofs.YtkccpidgeecemaaGreatDoor.H
