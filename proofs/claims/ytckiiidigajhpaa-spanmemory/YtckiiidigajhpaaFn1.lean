/-
  The small functions: isSpan, own, same, put, Right.
-/
import Derived.Test.YtckiiidigajhpaaBase
namespace Go.Proofs.Ytckiiidigajhpaa
open Go.ChangeShapes Go.WideShapes Go.ChangeAt Go.RowKit
set_option linter.unusedVariables false

set_option maxHeartbeats 1000000 in
theorem isSpan_c (x : Sp) (w : World) : Calls Try.prog 32 #[valS x] w fun E w' => E = .returned (.bool (isB x)) ∧ Away [] w w' := by
  obtain ⟨f, t⟩ := x
  simp only [valS]
  by_cases h1 : 0 ≤ f
  · by_cases h2 : f < t
    · by_cases h3 : t ≤ 65535
      · have hR : Hid (isB (f, t) = true) := by show _ = _; rw [isB_iff]; exact ⟨h1, h2, h3⟩
        generalize isB (f, t) = R at *
        go_enter Try.func32, Try.ntmps32
        go_wp2
        go_ret
        exact ⟨by rw [hR.out]; first | rfl | simp, (Away.refl _ _).alloc _⟩
      · have hR : Hid (isB (f, t) = false) := by show _ = _; rw [Bool.eq_false_iff, ne_eq, isB_iff]; unfold Is; simp only; omega
        generalize isB (f, t) = R at *
        go_enter Try.func32, Try.ntmps32
        go_wp2
        go_ret
        exact ⟨by rw [hR.out]; first | rfl | simp, (Away.refl _ _).alloc _⟩
    · have hR : Hid (isB (f, t) = false) := by show _ = _; rw [Bool.eq_false_iff, ne_eq, isB_iff]; unfold Is; simp only; omega
      generalize isB (f, t) = R at *
      go_enter Try.func32, Try.ntmps32
      go_wp2
      go_ret
      exact ⟨by rw [hR.out]; first | rfl | simp, (Away.refl _ _).alloc _⟩
  · have hR : Hid (isB (f, t) = false) := by show _ = _; rw [Bool.eq_false_iff, ne_eq, isB_iff]; unfold Is; simp only; omega
    generalize isB (f, t) = R at *
    go_enter Try.func32, Try.ntmps32
    go_wp2
    go_ret
    exact ⟨by rw [hR.out]; first | rfl | simp, (Away.refl _ _).alloc _⟩

theorem take_snoc {l : List Sp} {k : Nat} {x : Sp} (h : l[k]? = some x) : l.take (k + 1) = l.take k ++ [x] := by
  have hk := get_lt h
  rw [List.take_succ_eq_append_getElem hk]
  rw [List.getElem?_eq_getElem hk] at h
  simp at h; rw [h]
/-- What makes a list: of its own, in new memory. -/
def Mk (w w' : World) (v : Value) (l : List Sp) : Prop := Lst w' v l ∧ New w.heap.size v ∧ Away [] w w'
set_option maxHeartbeats 1000000 in
theorem own_c (a : Option Addr) (l : List Sp) (n cap : Nat) (w : World) (hn : l.length = n) (hr : Row w a l) :
    Calls Try.prog 10 #[.slice a n cap] w fun E w' => ∃ v, E = .returned v ∧ Mk w w' v l := by
  subst hn
  have hlen := hr.1
  go_enter Try.func10, Try.ntmps10
  go_wp2_with fail
  go_loopw [3, 4] (fun v i wr => ∃ k : Nat, k ≤ l.length ∧ i = .int .i64 k ∧ Mk w wr v (l.take k)) (fun _ i _ => l.length - (intOf i).toNat)
  case atStart => exact ⟨0, by omega, rfl, Lst.nil _, New.nil _, Away.refl _ _⟩
  case round =>
    obtain ⟨k, hk, rfl, hl, hnew, haw⟩ := hrel
    have hsw := haw.size
    by_cases hlt : k < l.length
    · obtain ⟨x, hx, _⟩ := get_of hlt
      obtain ⟨b, off, rfl, c1, c2, -⟩ := (hr.on haw).at hx
      have HT : Hid (l.take (k + 1) = l.take k ++ [x]) := take_snoc hx
      have HL : Hid (Lst wr u3 (l.take k)) := hl
      have hkl : (l.take k).length = k := by simp; omega
      have HKL : Hid ((l.take k).length = k) := hkl
      clear hl hkl hx
      generalize l.take k = m at *
      go_wp2_with (at_builtin; refine wpList_app2 rfl _ _ rfl _ m rfl (by exact HL.out.on ((Away.refl [] _).alloc _)) ⟨_, 0, none⟩ 1 rfl x (by rw [World.cell?_alloc_at (hn := rfl)]; rfl) (by rw [add_plain, World.cell?_alloc_at (hn := rfl)]; rfl) (by rw [HKL.out]; omega) ?_)
      intro v' w2 hown2 hgr hmov
      go_wp2_with fail
      go_roundw
      case rel => exact ⟨k + 1, by omega, by go_num, by rw [HT.out]; exact ⟨hown2, hnew.moved hmov (by simp; omega), (haw.alloc _).step hgr hnew⟩⟩
      case measure => simp [intOf]; omega
    · go_wp2_with fail
      go_ret
      refine ⟨_, rfl, ?_, hnew, haw⟩
      rw [List.take_of_length_le (by omega)] at hl; exact hl

/-- It answered, and drew. -/
def Told (w : World) (b : Bool) (E : Ending) (w' : World) : Prop := E = .returned (.bool b) ∧ ∃ n, w' = w.drewN n
theorem Told.away {w w' : World} {b : Bool} {E : Ending} (h : Told w b E w') : E = .returned (.bool b) ∧ Away [] w w' := by
  obtain ⟨h1, n, rfl⟩ := h
  exact ⟨h1, (Away.refl _ _).drewN n⟩
set_option maxHeartbeats 2000000 in
theorem same_c (a b : Option Addr) (l m : List Sp) (n k cap cap' : Nat) (w : World) (hn : l.length = n) (hk : m.length = k) (hr : Row w a l) (hs : Row w b m) :
    Calls Try.prog 11 #[.slice a n cap, .slice b k cap'] w fun E w' => Told w (decide (l = m)) E w' := by
  subst hn; subst hk
  have hlen := hr.1
  have hlen' := hs.1
  obtain ⟨z, hz⟩ : ∃ z, z = decide (l = m) := ⟨_, rfl⟩
  rw [← hz]
  have HZ : Hid (z = decide (l = m)) := hz
  clear hz
  by_cases hd : l.length = m.length
  · rw [← hd]
    have HD : Hid (l.length = m.length) := hd
    clear hd
    go_enter Try.func11, Try.ntmps11
    go_wp2_with fail
    go_loopw [5] (fun i wr => ∃ (j n : Nat), j ≤ l.length ∧ i = .int .i64 (j : Int) ∧ l.take j = m.take j ∧ wr = w.drewN n) (fun i _ => l.length - (intOf i).toNat)
    case atStart => exact ⟨0, 0, by omega, rfl, rfl, rfl⟩
    case round =>
      obtain ⟨j, q, hj, rfl, ht, hW⟩ := hrel
      have HW : Hid (wr = w.drewN q) := hW
      have hr1 : Row wr a l := by rw [hW]; exact hr.drewN q
      have hs1 : Row wr b m := by rw [hW]; exact hs.drewN q
      clear hr hs hW
      have HT : Hid (l.take j = m.take j) := ht
      clear ht
      by_cases hlt : j < l.length
      · obtain ⟨x, hx, _⟩ := get_of hlt
        obtain ⟨y, hy, _⟩ := get_of (show j < m.length by have := HD.out; omega)
        obtain ⟨b1, o1, rfl, c1, c2, -⟩ := hr1.at hx
        obtain ⟨b2, o2, rfl, c3, c4, -⟩ := hs1.at hy
        have t1 : decide ((j : Int) < (l.length : Int)) = true := by simp; omega
        have t2 : 0 ≤ (j : Int) := by omega
        have t3 : (j : Int) < (l.length : Int) := by omega
        have t4 : ((j : Int)).toNat = j := by omega
        have HX : Hid (x = y → l.take (j + 1) = m.take (j + 1)) := fun e => by rw [take_snoc hx, take_snoc hy, HT.out, e]
        have HY : Hid (x ≠ y → l ≠ m) := fun h e => h (by rw [e, hy] at hx; simpa using hx.symm)
        obtain ⟨x1, x2⟩ := x
        obtain ⟨y1, y2⟩ := y
        simp only at c1 c2 c3 c4
        clear hx hy hr1 hs1
        by_cases hxy : x1 = y1 ∧ x2 = y2
        · obtain ⟨rfl, rfl⟩ := hxy
          go_wp2_with fail
          go_region
          all_goals (go_wp2_with fail; go_roundw)
          case rel => exact ⟨j + 1, q + 1, by omega, by go_num, HX.out trivial, by rw [HW.out]; rfl⟩
          case measure => simp [intOf]; omega
        · obtain rfl : z = false := by rw [HZ.out]; simp [HY.out (fun e => hxy (by simpa using e))]
          by_cases h1 : x1 = y1
          · subst h1
            have h2 : ¬ (x2 = y2) := fun e => hxy ⟨rfl, e⟩
            have fb : decide (x2 = y2) = false := by simp [h2]
            clear hxy
            go_wp2_with fail
            go_region
            all_goals (go_wp2_with fail; go_ret)
            all_goals exact ⟨rfl, q + 1, by rw [HW.out]; rfl⟩
          · have fb : decide (x1 = y1) = false := by simp [h1]
            clear hxy
            go_wp2_with fail
            go_region
            all_goals (go_wp2_with fail; go_ret)
            all_goals exact ⟨rfl, q + 1, by rw [HW.out]; rfl⟩
      · obtain rfl : z = true := by
          have h1 : l.take j = l := List.take_of_length_le (by omega)
          have h2 : m.take j = m := List.take_of_length_le (by have := HD.out; omega)
          rw [HZ.out, decide_eq_true_eq, ← h1, ← h2]; exact HT.out
        go_wp2_with fail
        go_ret
        exact ⟨rfl, q, HW.out⟩
  · obtain rfl : z = false := by
      rw [HZ.out]
      simp; intro e; exact hd (by rw [e])
    have hd2 : ¬ ((l.length : Int) = (m.length : Int)) := by omega
    go_enter Try.func11, Try.ntmps11
    go_wp2_with fail
    go_ret
    exact ⟨rfl, 0, rfl⟩
theorem same_b {z : Bool} (a b : Option Addr) (l m : List Sp) (n k cap cap' : Nat) (w : World) (hn : l.length = n) (hk : m.length = k) (hr : Row w a l) (hs : Row w b m) (hz : decide (l = m) = z) :
    Calls Try.prog 11 #[.slice a n cap, .slice b k cap'] w fun E w' => E = .returned (.bool z) ∧ ∃ n, w' = w.drewN n := by
  have := same_c a b l m n k cap cap' w hn hk hr hs
  rw [hz] at this
  exact this

/-- A list that grew. -/
def Grew (w w' : World) (v v' : Value) (l : List Sp) : Prop := Lst w' v' l ∧ Moved w v v' ∧ Away v.ownBlock.toList w w'
set_option maxHeartbeats 1000000 in
theorem put_c (v : Value) (l : List Sp) (f t : Int) (w : World) (hl : Lst w v l) (hlen : l.length < 8796093022208) :
    Calls Try.prog 37 #[v, .int .i64 f, .int .i64 t] w fun E w' => ∃ v', E = .returned v' ∧ Grew w w' v v' (l ++ putP f t) := by
  have HL : Hid (Lst w v l) := hl
  clear hl
  by_cases h : t ≤ f
  · have HP : Hid (putP f t = []) := by show _ = _; unfold putP; rw [if_neg (by omega)]
    go_enter Try.func37, Try.ntmps37
    go_wp2
    go_ret
    exact ⟨_, rfl, by rw [HP.out, List.append_nil]; exact HL.out, Moved.refl _ _, Away.refl _ _⟩
  · have HP : Hid (putP f t = [(f, t)]) := by show _ = _; unfold putP; rw [if_pos (by omega)]
    go_enter Try.func37, Try.ntmps37
    go_wp2_with (at_builtin; refine wpList_app2 rfl _ _ rfl _ l rfl (by exact HL.out.on ((Away.refl [] _).alloc _)) ⟨_, 0, none⟩ 1 rfl (f, t) (by rw [World.cell?_alloc_at (hn := rfl)]; rfl) (by rw [add_plain, World.cell?_alloc_at (hn := rfl)]; rfl) hlen ?_)
    intro v' w2 hown2 hgr hmov
    go_wp2
    go_ret
    refine ⟨_, rfl, by rw [HP.out]; exact hown2, fun k hk => ?_, ?_⟩
    · rcases hmov k hk with h1 | h1
      · exact .inl h1
      · right; simp at h1; omega
    · exact ((Away.refl _ _).alloc _).grown hgr (fun k hk => .inl (by simp [hk]))

theorem rf_at {l : List Sp} {k : Nat} {x : Sp} (h : l[k]? = some x) (e : Int) : rightFrom e (l.drop k) = (isB x && decide (e < x.1) && rightFrom x.2 (l.drop (k + 1))) := by
  have hk := get_lt h
  rw [List.drop_eq_getElem_cons hk]
  rw [List.getElem?_eq_getElem hk] at h
  simp at h; rw [h]; rfl
set_option maxHeartbeats 2000000 in
theorem right_c (a : Option Addr) (l : List Sp) (n cap : Nat) (w : World) (hn : l.length = n) (hr : Row w a l) :
    Calls Try.prog 12 #[.slice a n cap] w fun E w' => E = .returned (.bool (rightP l)) ∧ Away [] w w' := by
  subst hn
  have hlen := hr.1
  obtain ⟨z, hz⟩ : ∃ z, z = rightP l := ⟨_, rfl⟩
  rw [← hz]
  have HZ : Hid (z = rightP l) := hz
  clear hz
  go_enter Try.func12, Try.ntmps12
  go_wp2_with fail
  go_loopw [3, 8] (fun v i wr => ∃ (k : Nat) (e : Int), k ≤ l.length ∧ i = .int .i64 k ∧ v = .int .i64 e ∧ Away [] w wr ∧ rightP l = rightFrom e (l.drop k)) (fun _ i _ => l.length - (intOf i).toNat)
  case atStart => exact ⟨0, -1, by omega, rfl, rfl, Away.refl _ _, rfl⟩
  case round =>
    obtain ⟨k, e, hk, rfl, rfl, haw, hq⟩ := hrel
    have HQ : Hid (rightP l = rightFrom e (l.drop k)) := hq
    clear hq
    by_cases hlt : k < l.length
    · obtain ⟨x, hx, _⟩ := get_of hlt
      obtain ⟨b, off, rfl, c1, c2, -⟩ := (hr.on haw).at hx
      have HA : Hid (rightFrom e (l.drop k) = (isB x && decide (e < x.1) && rightFrom x.2 (l.drop (k + 1)))) := rf_at hx e
      clear hx
      obtain ⟨x1, x2⟩ := x
      simp only at c1 c2
      go_wp2_with fail
      refine (isSpan_c (x1, x2) _).mono ?_
      rintro E w2 ⟨rfl, haw2⟩
      have k1 : w2.cell? ⟨wr.heap.size, 0, none⟩ = some (.int .i64 x1) := haw2.cell (by simp) (by simp)
      have k2 : w2.cell? ⟨wr.heap.size, 1, none⟩ = some (.int .i64 x2) := haw2.cell (by simp) (by simp)
      have haw3 : Away [] w w2 := (haw.alloc _).trans haw2
      clear haw2
      cases hb : isB (x1, x2)
      · go_wp2_with fail
        go_ret
        exact ⟨by rw [HZ.out, HQ.out, HA.out, hb]; rfl, haw3⟩
      · by_cases he : e < x1
        · go_wp2_with fail
          go_roundw
          case rel => exact ⟨k + 1, x2, by omega, by go_num, rfl, haw3, by rw [HQ.out, HA.out, hb]; simp [he]⟩
          case measure => simp [intOf]; omega
        · go_wp2_with fail
          go_ret
          exact ⟨by rw [HZ.out, HQ.out, HA.out, hb, decide_eq_false (show ¬ e < x1 by omega)]; rfl, haw3⟩
    · go_wp2_with fail
      go_ret
      exact ⟨by rw [HZ.out, HQ.out, List.drop_eq_nil_of_le (by omega)]; rfl, haw⟩
end Go.Proofs.Ytckiiidigajhpaa
