/-
  Has, Meets, Size, Holes.
-/
import Derived.Test.YtbkeilboneaejaaGreatDoorHNum
import Derived.Test.YtbkeilboneaejaaGreatDoorPkt
import Derived.WalkKit
import Derived.WalkMore
import Derived.OpenShut
import Derived.Laws.BitsAllLaws
import Derived.Deep.QuietTactic
import Derived.BigQuiet
import Derived.BigRegion
import Derived.WalkSmall
import Derived.Laws.Rows
import Derived.ProofKit
import Derived.ShutString
import Derived.ChangeOld
import Derived.Below
import Derived.SizedLaws
import Derived.Laws.AppendOwnNone
import Derived.Laws.OwnMore
import Derived.ArgAppend
namespace Go.Proofs.YtbkeilboneaejaaGreatDoor.H
open Go.ChangeShapes Go.WideShapes Go.ChangeAt Go.RowKit
set_option linter.unusedVariables false

/-! Spans in memory. -/
def I64 (n : Int) : Prop := -9223372036854775808 ≤ n ∧ n ≤ 9223372036854775807
def encS (x : Sp) : List Value := [.int .i64 x.1, .int .i64 x.2]
def valS (x : Sp) : Value := .agg #[.int .i64 x.1, .int .i64 x.2]
def OkS (x : Sp) : Prop := I64 x.1 ∧ I64 x.2
/-- The spans l lie at a. -/
def Row (w : World) (a : Option Addr) (l : List Sp) : Prop :=
  l.length ≤ 8796093022208 ∧ (∀ x ∈ l, OkS x) ∧ (l = [] ∨ ∃ b off, a = some ⟨b, off, none⟩ ∧ ∀ i x, l[i]? = some x → w.cell? ⟨b, off + i * 2, none⟩ = some (.int .i64 x.1) ∧ w.cell? ⟨b, off + i * 2 + 1, none⟩ = some (.int .i64 x.2))
theorem Row.away {S : List Nat} {w w' : World} {a : Option Addr} {l : List Sp} (h : Row w a l) (hw : Away S w w') (ha : ∀ p, a = some p → p.block ∉ S) : Row w' a l := by
  obtain ⟨h1, h2, h3⟩ := h
  refine ⟨h1, h2, ?_⟩
  rcases h3 with h3 | ⟨b, off, rfl, hc⟩
  · exact .inl h3
  · exact .inr ⟨b, off, rfl, fun i x hx => ⟨hw.cell (ha _ rfl) (hc i x hx).1, hw.cell (ha _ rfl) (hc i x hx).2⟩⟩
theorem Row.on {w w' : World} {a : Option Addr} {l : List Sp} (h : Row w a l) (hw : Away [] w w') : Row w' a l := h.away hw (by simp)
theorem Row.drewN {w : World} {a : Option Addr} {l : List Sp} (h : Row w a l) (n : Nat) : Row (w.drewN n) a l := h
theorem Row.nil (w : World) (a : Option Addr) : Row w a [] := ⟨by simp, by simp, .inl rfl⟩
theorem Row.at {w : World} {a : Option Addr} {l : List Sp} (h : Row w a l) {k : Nat} {x : Sp} (hk : l[k]? = some x) :
    ∃ b off, a = some ⟨b, off, none⟩ ∧ w.cell? ⟨b, off + k * 2, none⟩ = some (.int .i64 x.1) ∧ w.cell? ⟨b, off + k * 2 + 1, none⟩ = some (.int .i64 x.2) ∧ OkS x := by
  rcases h.2.2 with h0 | ⟨b, off, rfl, hc⟩
  · rw [h0] at hk; simp at hk
  · exact ⟨b, off, rfl, (hc k x hk).1, (hc k x hk).2, h.2.1 x (List.mem_of_getElem? hk)⟩
/-- A tail of a row, as a reslice tells it. -/
theorem Row.tail {w : World} {a : Option Addr} {l : List Sp} (h : Row w a l) (k cap : Nat) (hcap : l.length ≤ cap) (hk : k ≤ l.length) : Row w (if cap = k then a else a.map (·.add (k * 2))) (l.drop k) := by
  obtain ⟨h1, h2, h3⟩ := h
  refine ⟨by simp; omega, fun x hx => h2 x (List.mem_of_mem_drop hx), ?_⟩
  by_cases he : l.drop k = []
  · exact .inl he
  · right
    have hne : k < l.length := by
      rcases Nat.lt_or_ge k l.length with h | h
      · exact h
      · exact absurd (List.drop_eq_nil_of_le h) he
    rcases h3 with rfl | ⟨b, off, rfl, hc⟩
    · simp at hne
    · refine ⟨b, off + k * 2, by rw [if_neg (by omega)]; simp [add_plain], fun i x hx => ?_⟩
      rw [List.getElem?_drop] at hx
      have := hc (k + i) x hx
      rw [show off + k * 2 + i * 2 = off + (k + i) * 2 from by omega]
      exact this
theorem Row.head {w : World} {a : Option Addr} {l : List Sp} (h : Row w a l) (m : Nat) : Row w a (l.take m) := by
  obtain ⟨h1, h2, h3⟩ := h
  refine ⟨by simp; omega, fun x hx => h2 x (List.mem_of_mem_take hx), ?_⟩
  rcases h3 with rfl | ⟨b, off, rfl, hc⟩
  · left; simp
  · right
    refine ⟨b, off, rfl, fun i x hx => hc i x ?_⟩
    rw [List.getElem?_take] at hx
    split at hx
    · exact hx
    · simp at hx
/-- A list of the program's own. -/
def Lst (w : World) (v : Value) (l : List Sp) : Prop := w.ownsRow 0 90 2 v l.length (l.flatMap encS)
theorem flat_get : ∀ (l : List Sp) (i : Nat) (x : Sp), l[i]? = some x → (l.flatMap encS)[i * 2]? = some (.int .i64 x.1) ∧ (l.flatMap encS)[i * 2 + 1]? = some (.int .i64 x.2)
  | y :: r, 0, x, h => by simp at h; subst h; simp [encS]
  | y :: r, i + 1, x, h => by
    have := flat_get r i x (by simpa using h)
    rw [List.flatMap_cons, List.getElem?_append_right (by simp [encS]; omega), List.getElem?_append_right (by simp [encS]; omega)]
    rw [show (i + 1) * 2 - (encS y).length = i * 2 from by simp [encS]; omega, show (i + 1) * 2 + 1 - (encS y).length = i * 2 + 1 from by simp [encS]; omega]
    exact this
theorem flat_two (l : List Sp) : (l.flatMap encS).length = l.length * 2 := by
  induction l with
  | nil => rfl
  | cons x r ih => rw [List.flatMap_cons, List.length_append, ih]; simp [encS]; omega
theorem flat_one (l : List Sp) : ∀ u ∈ l.flatMap encS, u.oneCell' = true := by
  intro u hu
  obtain ⟨x, _, hx⟩ := List.mem_flatMap.1 hu
  simp [encS] at hx
  rcases hx with rfl | rfl <;> rfl
theorem Lst.away {S : List Nat} {w w' : World} {v : Value} {l : List Sp} (h : Lst w v l) (hw : Away S w w') (ha : ∀ k, v.ownBlock = some k → k ∉ S) : Lst w' v l := by
  obtain ⟨h1, h2⟩ := h
  refine ⟨h1, ?_⟩
  rcases h2 with h2 | ⟨g, cap, cur, rfl, hg, hh, r⟩
  · exact .inl h2
  · exact .inr ⟨g, cap, cur, rfl, hg, hw.keep (ha g rfl) hh, r⟩
theorem Lst.on {w w' : World} {v : Value} {l : List Sp} (h : Lst w v l) (hw : Away [] w w') : Lst w' v l := h.away hw (by simp)
theorem Lst.nil (w : World) : Lst w (.slice none 0 0) [] := World.ownsRow_nil _ _ _ _
theorem Lst.lt {w : World} {v : Value} {l : List Sp} (h : Lst w v l) : ∀ k, v.ownBlock = some k → k < w.heap.size := fun k hk => (World.ownsRow.lt h k hk).2
theorem get_lt {l : List Sp} {i : Nat} {x : Sp} (h : l[i]? = some x) : i < l.length := by
  rcases Nat.lt_or_ge i l.length with h' | h'
  · exact h'
  · rw [List.getElem?_eq_none h'] at h; simp at h
theorem get_of {l : List Sp} {i : Nat} (h : i < l.length) : ∃ x, l[i]? = some x ∧ x ∈ l := ⟨l[i], by simp [h], by simp⟩
theorem Lst.row {w : World} {v : Value} {l : List Sp} (h : Lst w v l) (hl : l.length ≤ 8796093022208) (hok : ∀ x ∈ l, OkS x) :
    ∃ a cap, v = .slice a l.length cap ∧ l.length ≤ cap ∧ (a = none → cap = 0) ∧ Row w a l ∧ (∀ p, a = some p → v.ownBlock = some p.block ∧ p.off = 0 ∧ p.spot = none) := by
  have h0 := h
  rcases h.2 with ⟨rfl, h2⟩ | ⟨g, cap, cur, rfl, hg, hh, hn, hc, hs, ht⟩
  · have : l = [] := by simpa using h2
    subst this
    exact ⟨none, 0, rfl, Nat.le_refl _, fun _ => rfl, Row.nil _ _, by simp⟩
  · refine ⟨some ⟨g, 0, none⟩, cap, rfl, hn, by simp, ⟨hl, hok, .inr ⟨g, 0, rfl, fun i x hx => ?_⟩⟩, by simp [Value.ownBlock]⟩
    have hi := get_lt hx
    have := flat_get l i x hx
    rw [Nat.zero_add, World.ownsRow.cellAt h0 (i * 2) (by omega), World.ownsRow.cellAt h0 (i * 2 + 1) (by omega)]
    exact this
theorem flat_snoc (l : List Sp) (x : Sp) : (l ++ [x]).flatMap encS = l.flatMap encS ++ [.int .i64 x.1, .int .i64 x.2] := by simp [encS]
theorem Lst.snoc {w : World} {v : Value} {l : List Sp} {x : Sp} (h : w.ownsRow 0 90 2 v (l.length + 1) (l.flatMap encS ++ [.int .i64 x.1, .int .i64 x.2])) : Lst w v (l ++ [x]) := by
  unfold Lst
  rw [List.length_append, flat_snoc]
  exact h
theorem info50 : (Tryz.prog.info? 90).map (fun i => (i.zero, i.size, i.bytes)) = some (some (.agg #[.int .i64 0, .int .i64 0]), 2, 16) := by kernel_rfl
/-- One more span. -/
theorem run_app2 (ty : TypeId) (w : World) (v : Value) (k : Nat) (xs : List Value) (hown : w.ownsRow 0 90 2 v k xs) (ad : Addr) (c : Nat) (x y : Value) (hx : w.cell? ad = some x) (hy : w.cell? (ad.add 1) = some y) (h1 : x.oneCell' = true) (h2 : y.oneCell' = true)
    (hk : k < 8796093022208) :
    ∃ v' w', (Builtin.append_ #[78, 78] ty #[v, .slice (some ad) 1 c]).run Tryz.prog w = .ok v' w' ∧ w'.ownsRow 0 90 2 v' (k + 1) (xs ++ [x, y]) ∧ w.grownBy w' v.ownBlock ∧ Moved w v v' := by
  obtain ⟨i0, hi, hz0, hz1, hz2⟩ := info_parts info50
  refine run_appN 78 ty 90 i0 _ 16 2 Tryz.underlying78 hi hz0 hz1 hz2 rfl (by decide) w v k xs hown ad 1 c [x, y] rfl (fun j u hj => ?_) (by simp [h1, h2]) (by unfold maxLen; omega) (by omega)
  match j, hj with
  | 0, hj => simp at hj; subst hj; simpa [Addr.add] using hx
  | 1, hj => simp at hj; subst hj; exact hy
  | j + 2, hj => simp at hj
/-- As a step of a walk. -/
theorem wpList_app2 {w : World} {ops : Array Oper} {rest : List Oper} {o : Oper} {a : Act} {Q : Exit → Act → World → Prop} (hgd : o.guard = none) (s t : Operand)
    (ho : o.op = .call { callee := .builtin .append, args := #[s, t], argTypes := #[78, 78] }) (v : Value) (l : List Sp) (hs : a.eval s = v) (hown : Lst w v l)
    (ad : Addr) (c : Nat) (ht : a.eval t = .slice (some ad) 1 c) (x : Sp) (hx : w.cell? ad = some (.int .i64 x.1)) (hy : w.cell? (ad.add 1) = some (.int .i64 x.2)) (hk : l.length < 8796093022208)
    (h : ∀ v' w', Lst w' v' (l ++ [x]) → w.grownBy w' v.ownBlock → Moved w v v' → wpList Tryz.prog ops Q rest (a.put o.dst v') w') : wpList Tryz.prog ops Q (o :: rest) a w := by
  obtain ⟨v', w', hrun, r1, r2, r3⟩ := run_app2 o.type w v l.length (l.flatMap encS) hown ad c _ _ hx hy rfl rfl hk
  refine wpList_plain hgd fun _ hK => ?_
  unfold Oper.wp
  simp [execOp, ho, resolve, invoke, builtin, hs, ht, hrun, Result.andThen]
  exact hK _ _ (h v' w' (Lst.snoc r1) r2 r3)
/-- A list appended, from a row that can be read. -/
theorem wpList_appL {w : World} {ops : Array Oper} {rest : List Oper} {o : Oper} {a : Act} {Q : Exit → Act → World → Prop} (hgd : o.guard = none) (s t : Operand)
    (ho : o.op = .call { callee := .builtin .append, args := #[s, t], argTypes := #[78, 78] }) (v : Value) (l m : List Sp) (hs : a.eval s = v) (hown : Lst w v l)
    (ad : Option Addr) (n c : Nat) (ht : a.eval t = .slice ad n c) (hn : m.length = n) (hnil : ad = none → c = 0) (hr : Row w ad m) (hk : l.length + n ≤ 8796093022208)
    (h : ∀ v' w', Lst w' v' (l ++ m) → w.grownBy w' v.ownBlock → Moved w v v' → wpList Tryz.prog ops Q rest (a.put o.dst v') w') : wpList Tryz.prog ops Q (o :: rest) a w := by
  subst hn
  obtain ⟨i0, hi, hz0, hz1, hz2⟩ := info_parts info50
  rcases ad with _ | ad
  · obtain rfl : m = [] := by rcases hr.2.2 with h | ⟨_, _, h, _⟩ <;> simp_all
    obtain rfl := hnil rfl
    exact wpList_append_own_none hgd s t 78 ho 0 90 i0 2 Tryz.underlying78 hi v _ _ hs hown ht (h v w (by simpa using hown) ⟨rfl, rfl, rfl, Nat.le_refl _, fun _ _ _ => rfl⟩ (Moved.refl _ _))
  · obtain ⟨v', w', hrun, r1, r2, r3⟩ := run_appN 78 o.type 90 i0 _ 16 2 Tryz.underlying78 hi hz0 hz1 hz2 rfl (by decide) w v l.length (l.flatMap encS) hown ad m.length c (m.flatMap encS) (flat_two m) (fun j u hj => by
        have hlt : j < m.length * 2 := by
          rw [← flat_two]
          rcases Nat.lt_or_ge j (m.flatMap encS).length with h' | h'
          · exact h'
          · rw [List.getElem?_eq_none h'] at hj; simp at hj
        obtain ⟨x, hx, _⟩ := get_of (show j / 2 < m.length by omega)
        obtain ⟨b, off, hb, c1, c2, _⟩ := hr.at hx
        obtain ⟨f1, f2⟩ := flat_get m (j / 2) x hx
        simp at hb; subst hb
        rw [add_plain]
        rcases Nat.mod_two_eq_zero_or_one j with h0 | h0
        · have e : j / 2 * 2 = j := by omega
          rw [e] at c1 f1; rw [c1, ← hj, f1]
        · have e : j / 2 * 2 + 1 = j := by omega
          rw [e] at f2
          rw [show off + j = off + j / 2 * 2 + 1 from by omega, c2, ← hj, f2]) (flat_one m) (by unfold maxLen; omega) (by omega)
    refine wpList_plain hgd fun _ hK => ?_
    unfold Oper.wp
    simp [execOp, ho, resolve, invoke, builtin, hs, ht, hrun, Result.andThen]
    refine hK _ _ (h v' w' ?_ r2 r3)
    unfold Lst
    rw [List.length_append, List.flatMap_append]
    exact r1
theorem _root_.Go.Proofs.YtbkeilboneaejaaGreatDoor.Away.step {S : List Nat} {a w w' : World} {v : Value} (h : Away S a w) (hgr : w.grownBy w' v.ownBlock) (hv : New a.heap.size v) : Away S a w' := h.grown hgr (fun k hk => .inr (hv k hk))
#print axioms wpList_appL
end Go.Proofs.YtbkeilboneaejaaGreatDoor.H

namespace Go.Proofs.YtbkeilboneaejaaGreatDoor.H
open Go.ChangeShapes Go.WideShapes Go.ChangeAt Go.RowKit
set_option linter.unusedVariables false

set_option maxHeartbeats 1000000 in
theorem isSpan_c (x : Sp) (w : World) : Calls Tryz.prog 128 #[valS x] w fun E w' => E = .returned (.bool (isB x)) ∧ Away [] w w' := by
  obtain ⟨f, t⟩ := x
  simp only [valS]
  by_cases h1 : 0 ≤ f
  · by_cases h2 : f < t
    · by_cases h3 : t ≤ 65535
      · have hR : Hid (isB (f, t) = true) := by show _ = _; rw [isB_iff]; exact ⟨h1, h2, h3⟩
        generalize isB (f, t) = R at *
        go_enter Tryz.func128, Tryz.ntmps128
        go_wp2
        go_ret
        exact ⟨by rw [hR.out]; first | rfl | simp, (Away.refl _ _).alloc _⟩
      · have hR : Hid (isB (f, t) = false) := by show _ = _; rw [Bool.eq_false_iff, ne_eq, isB_iff]; unfold Is; simp only; omega
        generalize isB (f, t) = R at *
        go_enter Tryz.func128, Tryz.ntmps128
        go_wp2
        go_ret
        exact ⟨by rw [hR.out]; first | rfl | simp, (Away.refl _ _).alloc _⟩
    · have hR : Hid (isB (f, t) = false) := by show _ = _; rw [Bool.eq_false_iff, ne_eq, isB_iff]; unfold Is; simp only; omega
      generalize isB (f, t) = R at *
      go_enter Tryz.func128, Tryz.ntmps128
      go_wp2
      go_ret
      exact ⟨by rw [hR.out]; first | rfl | simp, (Away.refl _ _).alloc _⟩
  · have hR : Hid (isB (f, t) = false) := by show _ = _; rw [Bool.eq_false_iff, ne_eq, isB_iff]; unfold Is; simp only; omega
    generalize isB (f, t) = R at *
    go_enter Tryz.func128, Tryz.ntmps128
    go_wp2
    go_ret
    exact ⟨by rw [hR.out]; first | rfl | simp, (Away.refl _ _).alloc _⟩

theorem take_snoc {l : List Sp} {k : Nat} {x : Sp} (h : l[k]? = some x) : l.take (k + 1) = l.take k ++ [x] := by
  have hk := get_lt h
  rw [List.take_succ_eq_append_getElem hk]
  rw [List.getElem?_eq_getElem hk] at h
  simp at h; rw [h]
/-- What makes a list: of its own, in new memory. -/
def Mk (w w' : World) (v : Value) (l : List Sp) : Prop := Lst w' v l ∧ New w.heap.size v ∧ Away [] w w'
set_option maxHeartbeats 1000000 in
/-- It answered, and drew. -/
def Told (w : World) (b : Bool) (E : Ending) (w' : World) : Prop := E = .returned (.bool b) ∧ ∃ n, w' = w.drewN n
theorem Told.away {w w' : World} {b : Bool} {E : Ending} (h : Told w b E w') : E = .returned (.bool b) ∧ Away [] w w' := by
  obtain ⟨h1, n, rfl⟩ := h
  exact ⟨h1, (Away.refl _ _).drewN n⟩
/-- A list that grew. -/
def Grew (w w' : World) (v v' : Value) (l : List Sp) : Prop := Lst w' v' l ∧ Moved w v v' ∧ Away v.ownBlock.toList w w'
set_option maxHeartbeats 1000000 in
theorem put_c (v : Value) (l : List Sp) (f t : Int) (w : World) (hl : Lst w v l) (hlen : l.length < 8796093022208) :
    Calls Tryz.prog 129 #[v, .int .i64 f, .int .i64 t] w fun E w' => ∃ v', E = .returned v' ∧ Grew w w' v v' (l ++ putP f t) := by
  have HL : Hid (Lst w v l) := hl
  clear hl
  by_cases h : t ≤ f
  · have HP : Hid (putP f t = []) := by show _ = _; unfold putP; rw [if_neg (by omega)]
    go_enter Tryz.func129, Tryz.ntmps129
    go_wp2
    go_ret
    exact ⟨_, rfl, by rw [HP.out, List.append_nil]; exact HL.out, Moved.refl _ _, Away.refl _ _⟩
  · have HP : Hid (putP f t = [(f, t)]) := by show _ = _; unfold putP; rw [if_pos (by omega)]
    go_enter Tryz.func129, Tryz.ntmps129
    go_wp2_with (at_builtin; refine wpList_app2 rfl _ _ rfl _ l rfl (by exact HL.out.on ((Away.refl [] _).alloc _)) ⟨_, 0, none⟩ 1 rfl (f, t) (by rw [World.cell?_alloc_at (hn := rfl)]; rfl) (by rw [add_plain, World.cell?_alloc_at (hn := rfl)]; rfl) hlen ?_)
    intro v' w2 hown2 hgr hmov
    go_wp2
    go_ret
    refine ⟨_, rfl, by rw [HP.out]; exact hown2, fun k hk => ?_, ?_⟩
    · rcases hmov k hk with h1 | h1
      · exact .inl h1
      · right; simp at h1; omega
    · exact ((Away.refl _ _).alloc _).grown hgr (fun k hk => .inl (by simp [hk]))

theorem rf_at {l : List Sp} {k : Nat} {x : Sp} (h : l[k]? = some x) (e : Int) : rightFrom e (l.drop k) = (isB x && decide (e < x.1) && rightFrom x.2 (l.drop (k + 1))) := by
  have hk := get_lt h
  rw [List.drop_eq_getElem_cons hk]
  rw [List.getElem?_eq_getElem hk] at h
  simp at h; rw [h]; rfl
set_option maxHeartbeats 2000000 in
theorem right_c (a : Option Addr) (l : List Sp) (n cap : Nat) (w : World) (hn : l.length = n) (hr : Row w a l) :
    Calls Tryz.prog 118 #[.slice a n cap] w fun E w' => E = .returned (.bool (rightP l)) ∧ Away [] w w' := by
  subst hn
  have hlen := hr.1
  obtain ⟨z, hz⟩ : ∃ z, z = rightP l := ⟨_, rfl⟩
  rw [← hz]
  have HZ : Hid (z = rightP l) := hz
  clear hz
  go_enter Tryz.func118, Tryz.ntmps118
  go_wp2_with fail
  go_loopw [3, 8] (fun v i wr => ∃ (k : Nat) (e : Int), k ≤ l.length ∧ i = .int .i64 k ∧ v = .int .i64 e ∧ Away [] w wr ∧ rightP l = rightFrom e (l.drop k)) (fun _ i _ => l.length - (intOf i).toNat)
  case atStart => exact ⟨0, -1, by omega, rfl, rfl, Away.refl _ _, rfl⟩
  case round =>
    obtain ⟨k, e, hk, rfl, rfl, haw, hq⟩ := hrel
    have HQ : Hid (rightP l = rightFrom e (l.drop k)) := hq
    clear hq
    by_cases hlt : k < l.length
    · obtain ⟨x, hx, _⟩ := get_of hlt
      obtain ⟨b, off, rfl, c1, c2, -⟩ := (hr.on haw).at hx
      have HA : Hid (rightFrom e (l.drop k) = (isB x && decide (e < x.1) && rightFrom x.2 (l.drop (k + 1)))) := rf_at hx e
      clear hx
      obtain ⟨x1, x2⟩ := x
      simp only at c1 c2
      go_wp2_with fail
      refine (isSpan_c (x1, x2) _).mono ?_
      rintro E w2 ⟨rfl, haw2⟩
      have k1 : w2.cell? ⟨wr.heap.size, 0, none⟩ = some (.int .i64 x1) := haw2.cell (by simp) (by simp)
      have k2 : w2.cell? ⟨wr.heap.size, 1, none⟩ = some (.int .i64 x2) := haw2.cell (by simp) (by simp)
      have haw3 : Away [] w w2 := (haw.alloc _).trans haw2
      clear haw2
      cases hb : isB (x1, x2)
      · go_wp2_with fail
        go_ret
        exact ⟨by rw [HZ.out, HQ.out, HA.out, hb]; rfl, haw3⟩
      · by_cases he : e < x1
        · go_wp2_with fail
          go_roundw
          case rel => exact ⟨k + 1, x2, by omega, by go_num, rfl, haw3, by rw [HQ.out, HA.out, hb]; simp [he]⟩
          case measure => simp [intOf]; omega
        · go_wp2_with fail
          go_ret
          exact ⟨by rw [HZ.out, HQ.out, HA.out, hb, decide_eq_false (show ¬ e < x1 by omega)]; rfl, haw3⟩
    · go_wp2_with fail
      go_ret
      exact ⟨by rw [HZ.out, HQ.out, List.drop_eq_nil_of_le (by omega)]; rfl, haw⟩
end Go.Proofs.YtbkeilboneaejaaGreatDoor.H

namespace Go.Proofs.YtbkeilboneaejaaGreatDoor.H
open Go.ChangeShapes Go.WideShapes Go.ChangeAt Go.RowKit
set_option linter.unusedVariables false

theorem hidI {p : Prop} (h : p) : Hid p := h
theorem Mk.on {w0 w w' : World} {v : Value} {l : List Sp} (h : Mk w0 w v l) (hw : Away [] w w') : Mk w0 w' v l := ⟨h.1.on hw, h.2.1, h.2.2.trans hw⟩
theorem Mk.grew {w0 w w' : World} {v v' : Value} {l l' : List Sp} (h : Mk w0 w v l) (hg : Grew w w' v v' l') : Mk w0 w' v' l' :=
  ⟨hg.1, h.2.1.moved hg.2.1 h.2.2.size, h.2.2.next hg.2.2 (fun x hx => .inr (h.2.1 x (by simpa using hx)))⟩
theorem Mk.nil (w : World) : Mk w w (.slice none 0 0) [] := ⟨Lst.nil _, New.nil _, Away.refl _ _⟩
theorem Mk.base {w0 w1 w : World} {v : Value} {l : List Sp} (h : Mk w1 w v l) (hw : Away [] w0 w1) : Mk w0 w v l := ⟨h.1, h.2.1.mono hw.size, hw.trans h.2.2⟩
theorem putP_len (f t : Int) : (putP f t).length ≤ 1 := by unfold putP; split <;> simp
theorem cut_len (l : List Sp) (s : Sp) : (cutP l s).length ≤ 2 * l.length := by
  induction l with
  | nil => simp [cutP]
  | cons x r ih =>
    have hc : cutP (x :: r) s = putP x.1 (min x.2 s.1) ++ putP (max x.1 s.2) x.2 ++ cutP r s := by simp [cutP]
    have h1 := putP_len x.1 (min x.2 s.1)
    have h2 := putP_len (max x.1 s.2) x.2
    rw [hc, List.length_append, List.length_append, List.length_cons]
    omega
theorem cut_snoc {l : List Sp} {k : Nat} {x : Sp} (s : Sp) (h : l[k]? = some x) : cutP (l.take (k + 1)) s = (cutP (l.take k) s ++ putP x.1 (min x.2 s.1)) ++ putP (max x.1 s.2) x.2 := by
  rw [take_snoc h]; simp [cutP]
/-- What answers a list and OK, or nil and ErrArg. -/
def Ans (w : World) (b : Bool) (r : List Sp) (E : Ending) (w' : World) : Prop :=
  if b = true then ∃ v, E = .returned (.tuple #[v, .int .i64 0]) ∧ Mk w w' v r else E = .returned (.tuple #[.slice none 0 0, .int .i64 1]) ∧ Away [] w w'
theorem Ans.yes {w w' : World} {r : List Sp} {v : Value} (h : Mk w w' v r) : Ans w true r (.returned (.tuple #[v, .int .i64 0])) w' := by unfold Ans; rw [if_pos rfl]; exact ⟨v, rfl, h⟩
theorem Ans.no {w w' : World} {r : List Sp} (h : Away [] w w') : Ans w false r (.returned (.tuple #[.slice none 0 0, .int .i64 1])) w' := by unfold Ans; rw [if_neg (by simp)]; exact ⟨rfl, h⟩
set_option maxHeartbeats 4000000 in
theorem cut_c (a : Option Addr) (l : List Sp) (s : Sp) (n cap : Nat) (w : World) (hn : l.length = n) (hr : Row w a l) :
    Calls Tryz.prog 116 #[.slice a n cap, valS s] w fun E w' => Ans w (rightP l && isB s) (cutP l s) E w' := by
  subst hn
  have hlen := hr.1
  have HR : Hid (Row w a l) := hr
  clear hr
  obtain ⟨s1, s2⟩ := s
  simp only [valS]
  cases hb : rightP l
  · go_enter Tryz.func116, Tryz.ntmps116
    go_wp2_with fail
    refine (right_c a l _ _ _ rfl (by exact HR.out.on ((Away.refl [] w).alloc _))).mono ?_
    rintro E w2 ⟨rfl, haw2⟩
    rw [hb]
    have haw3 : Away [] w w2 := ((Away.refl [] w).alloc _).trans haw2
    clear haw2
    go_wp2_with fail
    go_ret2
    exact Ans.no haw3
  · have hshort := right_short hb
    go_enter Tryz.func116, Tryz.ntmps116
    go_wp2_with fail
    refine (right_c a l _ _ _ rfl (by exact HR.out.on ((Away.refl [] w).alloc _))).mono ?_
    rintro E w2 ⟨rfl, haw2⟩
    rw [hb]
    have k1 : w2.cell? ⟨w.heap.size, 0, none⟩ = some (.int .i64 s1) := haw2.cell (by simp) (by simp)
    have k2 : w2.cell? ⟨w.heap.size, 1, none⟩ = some (.int .i64 s2) := haw2.cell (by simp) (by simp)
    have haw3 : Away [] w w2 := ((Away.refl [] w).alloc _).trans haw2
    clear haw2
    go_wp2_with fail
    refine (isSpan_c (s1, s2) _).mono ?_
    rintro E w1 ⟨rfl, haw4⟩
    have K1 := haw4.cell (by simp) k1
    have K2 := haw4.cell (by simp) k2
    have haw : Away [] w w1 := haw3.trans haw4
    clear haw3 haw4 k1 k2
    cases hs : isB (s1, s2)
    · go_wp2_with fail
      go_ret2
      exact (show Ans w (true && isB (s1, s2)) _ _ _ by rw [hs]; exact Ans.no haw)
    · go_wp2_with fail
      go_loopw [6, 19] (fun v i wr => ∃ k : Nat, k ≤ l.length ∧ i = .int .i64 k ∧ Mk w1 wr v (cutP (l.take k) (s1, s2))) (fun _ i _ => l.length - (intOf i).toNat)
      case atStart => exact ⟨0, by omega, rfl, Mk.nil _⟩
      case round =>
        obtain ⟨k, hk, rfl, hm⟩ := hrel
        have HM : Hid (Mk w1 wr u6 (cutP (l.take k) (s1, s2))) := hm
        have q1 := hm.2.2.cell (by simp) K1
        have q2 := hm.2.2.cell (by simp) K2
        by_cases hlt : k < l.length
        · obtain ⟨x, hx, _⟩ := get_of hlt
          obtain ⟨b, off, rfl, c1, c2, -⟩ := ((HR.out.on haw).on hm.2.2).at hx
          have HT : Hid (cutP (l.take (k + 1)) (s1, s2) = (cutP (l.take k) (s1, s2) ++ putP x.1 (min x.2 s1)) ++ putP (max x.1 s2) x.2) := cut_snoc (s1, s2) hx
          have HLN : Hid ((cutP (l.take k) (s1, s2)).length ≤ 65536) := by
            show _ ≤ _
            have := cut_len (l.take k) (s1, s2)
            have h2 : (l.take k).length ≤ l.length := by simp; omega
            omega
          clear hx hm
          obtain ⟨x1, x2⟩ := x
          simp only at c1 c2 HT
          generalize cutP (l.take k) (s1, s2) = m at *
          have q3 : (wr.alloc (.cells #[.int .i64 x1, .int .i64 x2] 90)).cell? ⟨w.heap.size, 0, none⟩ = some (.int .i64 s1) := ((Away.refl [] wr).alloc _).cell (by simp) q1
          have q4 : (wr.alloc (.cells #[.int .i64 x1, .int .i64 x2] 90)).cell? ⟨w.heap.size, 1, none⟩ = some (.int .i64 s2) := ((Away.refl [] wr).alloc _).cell (by simp) q2
          clear q1 q2
          have hm0 := HM.out.on ((Away.refl [] wr).alloc (.cells #[.int .i64 x1, .int .i64 x2] 90))
          have HM0 : Hid (Mk w1 (wr.alloc (.cells #[.int .i64 x1, .int .i64 x2] 90)) u6 m) := hm0
          have HB : Hid (∀ j, u6.ownBlock = some j → w1.heap.size ≤ j ∧ j < wr.heap.size) := fun j hj => ⟨hm0.2.1 j hj, HM.out.1.lt j hj⟩
          have hs1 := haw.size
          have hs2 := HM.out.2.2.size
          have HW0 : Hid (w.heap.size < w1.heap.size) := block_lt_of_cell K1
          clear hm0
          rcases (show (min x2 s1 = x2 ∧ x2 ≤ s1) ∨ (min x2 s1 = s1 ∧ s1 < x2) by omega) with ⟨e1, o1⟩ | ⟨e1, o1⟩
          · rcases (show (max x1 s2 = x1 ∧ s2 ≤ x1) ∨ (max x1 s2 = s2 ∧ x1 < s2) by omega) with ⟨e2, o2⟩ | ⟨e2, o2⟩
            · go_wp2_with fail
              refine (put_c u6 m _ _ _ (by exact HM0.out.1) (by have := HLN.out; omega)).mono ?_
              rintro E w3 ⟨v3, rfl, hg3⟩
              have hne : w.heap.size ∉ u6.ownBlock.toList := fun hx => by
                have h1 := HB.out w.heap.size (by simpa using hx)
                have h2 := HW0.out
                omega
              have hne2 : wr.heap.size ∉ u6.ownBlock.toList := fun hx => by
                have h1 := HB.out wr.heap.size (by simpa using hx)
                omega
              have r1 := hg3.2.2.cell hne q3
              have r2 := hg3.2.2.cell hne q4
              have r3 : w3.cell? ⟨wr.heap.size, 0, none⟩ = some (.int .i64 x1) := hg3.2.2.cell hne2 (by simp)
              have r4 : w3.cell? ⟨wr.heap.size, 1, none⟩ = some (.int .i64 x2) := hg3.2.2.cell hne2 (by simp)
              have HM3 := hidI (HM0.out.grew hg3)
              have HL3 : Hid (∀ f t, (m ++ putP f t).length ≤ 65537) := fun f t => by
                have h1 := HLN.out
                have h2 := putP_len f t
                rw [List.length_append]; omega
              clear hg3 q3 q4 hne hne2
              go_wp2_with fail
              refine (put_c v3 _ _ _ _ (by exact HM3.out.1) (by have := HL3.out x1 (min x2 s1); rw [e1] at this; omega)).mono ?_
              rintro E w4 ⟨v4, rfl, hg4⟩
              have HM4 := hidI (HM3.out.grew hg4)
              clear hg4
              go_wp2_with fail
              go_roundw
              case rel => exact ⟨k + 1, by omega, by go_num, by rw [HT.out, e1, e2]; exact HM4.out⟩
              case measure => simp [intOf]; omega
            · go_wp2_with fail
              refine (put_c u6 m _ _ _ (by exact HM0.out.1) (by have := HLN.out; omega)).mono ?_
              rintro E w3 ⟨v3, rfl, hg3⟩
              have hne : w.heap.size ∉ u6.ownBlock.toList := fun hx => by
                have h1 := HB.out w.heap.size (by simpa using hx)
                have h2 := HW0.out
                omega
              have hne2 : wr.heap.size ∉ u6.ownBlock.toList := fun hx => by
                have h1 := HB.out wr.heap.size (by simpa using hx)
                omega
              have r1 := hg3.2.2.cell hne q3
              have r2 := hg3.2.2.cell hne q4
              have r3 : w3.cell? ⟨wr.heap.size, 0, none⟩ = some (.int .i64 x1) := hg3.2.2.cell hne2 (by simp)
              have r4 : w3.cell? ⟨wr.heap.size, 1, none⟩ = some (.int .i64 x2) := hg3.2.2.cell hne2 (by simp)
              have HM3 := hidI (HM0.out.grew hg3)
              have HL3 : Hid (∀ f t, (m ++ putP f t).length ≤ 65537) := fun f t => by
                have h1 := HLN.out
                have h2 := putP_len f t
                rw [List.length_append]; omega
              clear hg3 q3 q4 hne hne2
              go_wp2_with fail
              refine (put_c v3 _ _ _ _ (by exact HM3.out.1) (by have := HL3.out x1 (min x2 s1); rw [e1] at this; omega)).mono ?_
              rintro E w4 ⟨v4, rfl, hg4⟩
              have HM4 := hidI (HM3.out.grew hg4)
              clear hg4
              go_wp2_with fail
              go_roundw
              case rel => exact ⟨k + 1, by omega, by go_num, by rw [HT.out, e1, e2]; exact HM4.out⟩
              case measure => simp [intOf]; omega
          · rcases (show (max x1 s2 = x1 ∧ s2 ≤ x1) ∨ (max x1 s2 = s2 ∧ x1 < s2) by omega) with ⟨e2, o2⟩ | ⟨e2, o2⟩
            · go_wp2_with fail
              refine (put_c u6 m _ _ _ (by exact HM0.out.1) (by have := HLN.out; omega)).mono ?_
              rintro E w3 ⟨v3, rfl, hg3⟩
              have hne : w.heap.size ∉ u6.ownBlock.toList := fun hx => by
                have h1 := HB.out w.heap.size (by simpa using hx)
                have h2 := HW0.out
                omega
              have hne2 : wr.heap.size ∉ u6.ownBlock.toList := fun hx => by
                have h1 := HB.out wr.heap.size (by simpa using hx)
                omega
              have r1 := hg3.2.2.cell hne q3
              have r2 := hg3.2.2.cell hne q4
              have r3 : w3.cell? ⟨wr.heap.size, 0, none⟩ = some (.int .i64 x1) := hg3.2.2.cell hne2 (by simp)
              have r4 : w3.cell? ⟨wr.heap.size, 1, none⟩ = some (.int .i64 x2) := hg3.2.2.cell hne2 (by simp)
              have HM3 := hidI (HM0.out.grew hg3)
              have HL3 : Hid (∀ f t, (m ++ putP f t).length ≤ 65537) := fun f t => by
                have h1 := HLN.out
                have h2 := putP_len f t
                rw [List.length_append]; omega
              clear hg3 q3 q4 hne hne2
              go_wp2_with fail
              refine (put_c v3 _ _ _ _ (by exact HM3.out.1) (by have := HL3.out x1 (min x2 s1); rw [e1] at this; omega)).mono ?_
              rintro E w4 ⟨v4, rfl, hg4⟩
              have HM4 := hidI (HM3.out.grew hg4)
              clear hg4
              go_wp2_with fail
              go_roundw
              case rel => exact ⟨k + 1, by omega, by go_num, by rw [HT.out, e1, e2]; exact HM4.out⟩
              case measure => simp [intOf]; omega
            · go_wp2_with fail
              refine (put_c u6 m _ _ _ (by exact HM0.out.1) (by have := HLN.out; omega)).mono ?_
              rintro E w3 ⟨v3, rfl, hg3⟩
              have hne : w.heap.size ∉ u6.ownBlock.toList := fun hx => by
                have h1 := HB.out w.heap.size (by simpa using hx)
                have h2 := HW0.out
                omega
              have hne2 : wr.heap.size ∉ u6.ownBlock.toList := fun hx => by
                have h1 := HB.out wr.heap.size (by simpa using hx)
                omega
              have r1 := hg3.2.2.cell hne q3
              have r2 := hg3.2.2.cell hne q4
              have r3 : w3.cell? ⟨wr.heap.size, 0, none⟩ = some (.int .i64 x1) := hg3.2.2.cell hne2 (by simp)
              have r4 : w3.cell? ⟨wr.heap.size, 1, none⟩ = some (.int .i64 x2) := hg3.2.2.cell hne2 (by simp)
              have HM3 := hidI (HM0.out.grew hg3)
              have HL3 : Hid (∀ f t, (m ++ putP f t).length ≤ 65537) := fun f t => by
                have h1 := HLN.out
                have h2 := putP_len f t
                rw [List.length_append]; omega
              clear hg3 q3 q4 hne hne2
              go_wp2_with fail
              refine (put_c v3 _ _ _ _ (by exact HM3.out.1) (by have := HL3.out x1 (min x2 s1); rw [e1] at this; omega)).mono ?_
              rintro E w4 ⟨v4, rfl, hg4⟩
              have HM4 := hidI (HM3.out.grew hg4)
              clear hg4
              go_wp2_with fail
              go_roundw
              case rel => exact ⟨k + 1, by omega, by go_num, by rw [HT.out, e1, e2]; exact HM4.out⟩
              case measure => simp [intOf]; omega
        · go_wp2_with fail
          go_ret2
          have := HM.out.base haw
          rw [List.take_of_length_le (by omega)] at this
          exact (show Ans w (true && isB (s1, s2)) _ _ _ by rw [hs]; exact Ans.yes this)
end Go.Proofs.YtbkeilboneaejaaGreatDoor.H

namespace Go.Proofs.YtbkeilboneaejaaGreatDoor.H
open Go.ChangeShapes Go.WideShapes Go.ChangeAt Go.RowKit
set_option linter.unusedVariables false

theorem drop_at {l : List Sp} {k : Nat} {x : Sp} (h : l[k]? = some x) : l.drop k = x :: l.drop (k + 1) := by
  have hk := get_lt h
  rw [List.drop_eq_getElem_cons hk]
  rw [List.getElem?_eq_getElem hk] at h
  simp at h; rw [h]
set_option maxHeartbeats 4000000 in
theorem has_c (a : Option Addr) (l : List Sp) (s : Sp) (n cap : Nat) (w : World) (hn : l.length = n) (hr : Row w a l) :
    Calls Tryz.prog 114 #[.slice a n cap, valS s] w fun E w' => E = .returned (.bool (rightP l && isB s && hasP l s)) ∧ Away [] w w' := by
  subst hn
  have hlen := hr.1
  have HR : Hid (Row w a l) := hr
  clear hr
  obtain ⟨s1, s2⟩ := s
  simp only [valS]
  obtain ⟨z, hz⟩ : ∃ z, z = (rightP l && isB (s1, s2) && hasP l (s1, s2)) := ⟨_, rfl⟩
  rw [← hz]
  have HZ : Hid (z = (rightP l && isB (s1, s2) && hasP l (s1, s2))) := hz
  clear hz
  cases hb : rightP l
  · go_enter Tryz.func114, Tryz.ntmps114
    go_wp2_with fail
    refine (right_c a l _ _ _ rfl (by exact HR.out.on ((Away.refl [] w).alloc _))).mono ?_
    rintro E w2 ⟨rfl, haw2⟩
    rw [hb]
    have haw3 : Away [] w w2 := ((Away.refl [] w).alloc _).trans haw2
    clear haw2
    go_wp2_with fail
    go_ret
    exact ⟨by rw [HZ.out, hb]; rfl, haw3⟩
  · go_enter Tryz.func114, Tryz.ntmps114
    go_wp2_with fail
    refine (right_c a l _ _ _ rfl (by exact HR.out.on ((Away.refl [] w).alloc _))).mono ?_
    rintro E w2 ⟨rfl, haw2⟩
    rw [hb]
    have k1 : w2.cell? ⟨w.heap.size, 0, none⟩ = some (.int .i64 s1) := haw2.cell (by simp) (by simp)
    have k2 : w2.cell? ⟨w.heap.size, 1, none⟩ = some (.int .i64 s2) := haw2.cell (by simp) (by simp)
    have haw3 : Away [] w w2 := ((Away.refl [] w).alloc _).trans haw2
    clear haw2
    go_wp2_with fail
    refine (isSpan_c (s1, s2) _).mono ?_
    rintro E w1 ⟨rfl, haw4⟩
    have K1 := haw4.cell (by simp) k1
    have K2 := haw4.cell (by simp) k2
    have haw : Away [] w w1 := haw3.trans haw4
    clear haw3 haw4 k1 k2
    cases hs : isB (s1, s2)
    · go_wp2_with fail
      go_ret
      exact ⟨by rw [HZ.out, hb, hs]; rfl, haw⟩
    · have HZ2 : Hid (z = hasP l (s1, s2)) := by show _ = _; rw [HZ.out, hb, hs]; rfl
      clear HZ
      go_wp2_with fail
      go_loopw [17] (fun i wr => ∃ k : Nat, k ≤ l.length ∧ i = .int .i64 k ∧ Away [] w1 wr ∧ hasP l (s1, s2) = hasP (l.drop k) (s1, s2)) (fun i _ => l.length - (intOf i).toNat)
      case atStart => exact ⟨0, by omega, rfl, Away.refl _ _, rfl⟩
      case round =>
        obtain ⟨k, hk, rfl, hm, hq⟩ := hrel
        have HQ : Hid (hasP l (s1, s2) = hasP (l.drop k) (s1, s2)) := hq
        clear hq
        have q1 := hm.cell (by simp) K1
        have q2 := hm.cell (by simp) K2
        by_cases hlt : k < l.length
        · obtain ⟨x, hx, _⟩ := get_of hlt
          obtain ⟨b, off, rfl, c1, c2, -⟩ := ((HR.out.on haw).on hm).at hx
          obtain ⟨x1, x2⟩ := x
          simp only at c1 c2
          have q3 : (wr.alloc (.cells #[.int .i64 x1, .int .i64 x2] 90)).cell? ⟨w.heap.size, 0, none⟩ = some (.int .i64 s1) := ((Away.refl [] wr).alloc _).cell (by simp) q1
          have q4 : (wr.alloc (.cells #[.int .i64 x1, .int .i64 x2] 90)).cell? ⟨w.heap.size, 1, none⟩ = some (.int .i64 s2) := ((Away.refl [] wr).alloc _).cell (by simp) q2
          clear q1 q2
          have HA : Hid (hasP (l.drop k) (s1, s2) = (decide (x1 ≤ s1 ∧ s2 ≤ x2) || hasP (l.drop (k + 1)) (s1, s2))) := by show _ = _; rw [drop_at hx]; rfl
          clear hx
          by_cases h1 : x1 ≤ s1
          · by_cases h2 : s2 ≤ x2
            · have HS : Hid (decide (x1 ≤ s1 ∧ s2 ≤ x2) = true) := by show _ = _; simp; omega
              go_wp2_with fail
              go_ret
              exact ⟨by rw [HZ2.out, HQ.out, HA.out, HS.out]; rfl, (haw.trans hm).alloc _⟩
            · have HS : Hid (decide (x1 ≤ s1 ∧ s2 ≤ x2) = false) := by show _ = _; simp; omega
              go_wp2_with fail
              go_roundw
              case rel => exact ⟨k + 1, by omega, by go_num, hm.alloc _, by rw [HQ.out, HA.out, HS.out]; rfl⟩
              case measure => simp [intOf]; omega
          · have HS : Hid (decide (x1 ≤ s1 ∧ s2 ≤ x2) = false) := by show _ = _; simp; omega
            go_wp2_with fail
            go_roundw
            case rel => exact ⟨k + 1, by omega, by go_num, hm.alloc _, by rw [HQ.out, HA.out, HS.out]; rfl⟩
            case measure => simp [intOf]; omega
        · go_wp2_with fail
          go_ret
          exact ⟨by rw [HZ2.out, HQ.out, List.drop_eq_nil_of_le (by omega)]; rfl, haw.trans hm⟩
theorem len_snoc {l : List Sp} {k : Nat} {x : Sp} (h : l[k]? = some x) : lenP (l.take (k + 1)) = lenP (l.take k) + (x.2 - x.1) := by
  rw [take_snoc h]; unfold lenP; simp
theorem len_bound : ∀ (l : List Sp), (∀ s ∈ l, Is s) → 0 ≤ lenP l ∧ lenP l ≤ 65535 * l.length
  | [], h => by simp [lenP]
  | x :: r, h => by
    have h1 := h x (by simp)
    have h2 := len_bound r (fun s hs => h s (by simp [hs]))
    unfold Is at h1
    have e : lenP (x :: r) = x.2 - x.1 + lenP r := by simp [lenP]
    rw [e, List.length_cons]
    push_cast
    omega
end Go.Proofs.YtbkeilboneaejaaGreatDoor.H
