/-
  Worlds that part in some blocks alone; lists of spans in memory; appends.
-/
import Derived.Test.YtkccpidgeecemaaGreatDoorHNum
import Derived.Test.YtkccpidgeecemaaGreatDoorPktA
import Derived.WalkKit
import Derived.WalkMore
import Derived.OpenShut
import Derived.Laws.BitsAllLaws
import Derived.Deep.QuietTactic
import Derived.BigQuiet
import Derived.BigRegion
import Derived.WalkSmall
import Derived.Laws.Rows
import Derived.ProofKit
import Derived.ShutString
import Derived.ChangeOld
import Derived.Below
import Derived.SizedLaws
import Derived.Laws.AppendOwnNone
import Derived.Laws.OwnMore
import Derived.ArgAppend
namespace Go.Proofs.YtkccpidgeecemaaGreatDoor.H
open Go.ChangeShapes Go.WideShapes Go.ChangeAt Go.RowKit
set_option linter.unusedVariables false
/-! Spans in memory. -/
def I64 (n : Int) : Prop := -9223372036854775808 ≤ n ∧ n ≤ 9223372036854775807
def encS (x : Sp) : List Value := [.int .i64 x.1, .int .i64 x.2]
def valS (x : Sp) : Value := .agg #[.int .i64 x.1, .int .i64 x.2]
def OkS (x : Sp) : Prop := I64 x.1 ∧ I64 x.2
def Row (w : World) (a : Option Addr) (l : List Sp) : Prop :=
  l.length ≤ 8796093022208 ∧ (∀ x ∈ l, OkS x) ∧ (l = [] ∨ ∃ b off, a = some ⟨b, off, none⟩ ∧ ∀ i x, l[i]? = some x → w.cell? ⟨b, off + i * 2, none⟩ = some (.int .i64 x.1) ∧ w.cell? ⟨b, off + i * 2 + 1, none⟩ = some (.int .i64 x.2))
theorem Row.away {S : List Nat} {w w' : World} {a : Option Addr} {l : List Sp} (h : Row w a l) (hw : Away S w w') (ha : ∀ p, a = some p → p.block ∉ S) : Row w' a l := by
  obtain ⟨h1, h2, h3⟩ := h
  refine ⟨h1, h2, ?_⟩
  rcases h3 with h3 | ⟨b, off, rfl, hc⟩
  · exact .inl h3
  · exact .inr ⟨b, off, rfl, fun i x hx => ⟨hw.cell (ha _ rfl) (hc i x hx).1, hw.cell (ha _ rfl) (hc i x hx).2⟩⟩
theorem Row.on {w w' : World} {a : Option Addr} {l : List Sp} (h : Row w a l) (hw : Away [] w w') : Row w' a l := h.away hw (by simp)
theorem Row.drewN {w : World} {a : Option Addr} {l : List Sp} (h : Row w a l) (n : Nat) : Row (w.drewN n) a l := h
theorem Row.nil (w : World) (a : Option Addr) : Row w a [] := ⟨by simp, by simp, .inl rfl⟩
theorem Row.at {w : World} {a : Option Addr} {l : List Sp} (h : Row w a l) {k : Nat} {x : Sp} (hk : l[k]? = some x) :
    ∃ b off, a = some ⟨b, off, none⟩ ∧ w.cell? ⟨b, off + k * 2, none⟩ = some (.int .i64 x.1) ∧ w.cell? ⟨b, off + k * 2 + 1, none⟩ = some (.int .i64 x.2) ∧ OkS x := by
  rcases h.2.2 with h0 | ⟨b, off, rfl, hc⟩
  · rw [h0] at hk; simp at hk
  · exact ⟨b, off, rfl, (hc k x hk).1, (hc k x hk).2, h.2.1 x (List.mem_of_getElem? hk)⟩
theorem Row.tail {w : World} {a : Option Addr} {l : List Sp} (h : Row w a l) (k cap : Nat) (hcap : l.length ≤ cap) (hk : k ≤ l.length) : Row w (if cap = k then a else a.map (·.add (k * 2))) (l.drop k) := by
  obtain ⟨h1, h2, h3⟩ := h
  refine ⟨by simp; omega, fun x hx => h2 x (List.mem_of_mem_drop hx), ?_⟩
  by_cases he : l.drop k = []
  · exact .inl he
  · right
    have hne : k < l.length := by
      rcases Nat.lt_or_ge k l.length with h | h
      · exact h
      · exact absurd (List.drop_eq_nil_of_le h) he
    rcases h3 with rfl | ⟨b, off, rfl, hc⟩
    · simp at hne
    · refine ⟨b, off + k * 2, by rw [if_neg (by omega)]; simp [add_plain], fun i x hx => ?_⟩
      rw [List.getElem?_drop] at hx
      have := hc (k + i) x hx
      rw [show off + k * 2 + i * 2 = off + (k + i) * 2 from by omega]
      exact this
theorem Row.head {w : World} {a : Option Addr} {l : List Sp} (h : Row w a l) (m : Nat) : Row w a (l.take m) := by
  obtain ⟨h1, h2, h3⟩ := h
  refine ⟨by simp; omega, fun x hx => h2 x (List.mem_of_mem_take hx), ?_⟩
  rcases h3 with rfl | ⟨b, off, rfl, hc⟩
  · left; simp
  · right
    refine ⟨b, off, rfl, fun i x hx => hc i x ?_⟩
    rw [List.getElem?_take] at hx
    split at hx
    · exact hx
    · simp at hx
def Lst (w : World) (v : Value) (l : List Sp) : Prop := w.ownsRow 0 112 2 v l.length (l.flatMap encS)
theorem flat_get : ∀ (l : List Sp) (i : Nat) (x : Sp), l[i]? = some x → (l.flatMap encS)[i * 2]? = some (.int .i64 x.1) ∧ (l.flatMap encS)[i * 2 + 1]? = some (.int .i64 x.2)
  | y :: r, 0, x, h => by simp at h; subst h; simp [encS]
  | y :: r, i + 1, x, h => by
    have := flat_get r i x (by simpa using h)
    rw [List.flatMap_cons, List.getElem?_append_right (by simp [encS]; omega), List.getElem?_append_right (by simp [encS]; omega)]
    rw [show (i + 1) * 2 - (encS y).length = i * 2 from by simp [encS]; omega, show (i + 1) * 2 + 1 - (encS y).length = i * 2 + 1 from by simp [encS]; omega]
    exact this
theorem flat_two (l : List Sp) : (l.flatMap encS).length = l.length * 2 := by
  induction l with
  | nil => rfl
  | cons x r ih => rw [List.flatMap_cons, List.length_append, ih]; simp [encS]; omega
theorem flat_one (l : List Sp) : ∀ u ∈ l.flatMap encS, u.oneCell' = true := by
  intro u hu
  obtain ⟨x, _, hx⟩ := List.mem_flatMap.1 hu
  simp [encS] at hx
  rcases hx with rfl | rfl <;> rfl
theorem Lst.away {S : List Nat} {w w' : World} {v : Value} {l : List Sp} (h : Lst w v l) (hw : Away S w w') (ha : ∀ k, v.ownBlock = some k → k ∉ S) : Lst w' v l := by
  obtain ⟨h1, h2⟩ := h
  refine ⟨h1, ?_⟩
  rcases h2 with h2 | ⟨g, cap, cur, rfl, hg, hh, r⟩
  · exact .inl h2
  · exact .inr ⟨g, cap, cur, rfl, hg, hw.keep (ha g rfl) hh, r⟩
theorem Lst.on {w w' : World} {v : Value} {l : List Sp} (h : Lst w v l) (hw : Away [] w w') : Lst w' v l := h.away hw (by simp)
theorem Lst.nil (w : World) : Lst w (.slice none 0 0) [] := World.ownsRow_nil _ _ _ _
theorem Lst.lt {w : World} {v : Value} {l : List Sp} (h : Lst w v l) : ∀ k, v.ownBlock = some k → k < w.heap.size := fun k hk => (World.ownsRow.lt h k hk).2
theorem get_lt {l : List Sp} {i : Nat} {x : Sp} (h : l[i]? = some x) : i < l.length := by
  rcases Nat.lt_or_ge i l.length with h' | h'
  · exact h'
  · rw [List.getElem?_eq_none h'] at h; simp at h
theorem get_of {l : List Sp} {i : Nat} (h : i < l.length) : ∃ x, l[i]? = some x ∧ x ∈ l := ⟨l[i], by simp [h], by simp⟩
theorem Lst.row {w : World} {v : Value} {l : List Sp} (h : Lst w v l) (hl : l.length ≤ 8796093022208) (hok : ∀ x ∈ l, OkS x) :
    ∃ a cap, v = .slice a l.length cap ∧ l.length ≤ cap ∧ (a = none → cap = 0) ∧ Row w a l ∧ (∀ p, a = some p → v.ownBlock = some p.block ∧ p.off = 0 ∧ p.spot = none) := by
  have h0 := h
  rcases h.2 with ⟨rfl, h2⟩ | ⟨g, cap, cur, rfl, hg, hh, hn, hc, hs, ht⟩
  · have : l = [] := by simpa using h2
    subst this
    exact ⟨none, 0, rfl, Nat.le_refl _, fun _ => rfl, Row.nil _ _, by simp⟩
  · refine ⟨some ⟨g, 0, none⟩, cap, rfl, hn, by simp, ⟨hl, hok, .inr ⟨g, 0, rfl, fun i x hx => ?_⟩⟩, by simp [Value.ownBlock]⟩
    have hi := get_lt hx
    have := flat_get l i x hx
    rw [Nat.zero_add, World.ownsRow.cellAt h0 (i * 2) (by omega), World.ownsRow.cellAt h0 (i * 2 + 1) (by omega)]
    exact this
theorem flat_snoc (l : List Sp) (x : Sp) : (l ++ [x]).flatMap encS = l.flatMap encS ++ [.int .i64 x.1, .int .i64 x.2] := by simp [encS]
theorem Lst.snoc {w : World} {v : Value} {l : List Sp} {x : Sp} (h : w.ownsRow 0 112 2 v (l.length + 1) (l.flatMap encS ++ [.int .i64 x.1, .int .i64 x.2])) : Lst w v (l ++ [x]) := by
  unfold Lst
  rw [List.length_append, flat_snoc]
  exact h
theorem info50 : (Tryz.prog.info? 112).map (fun i => (i.zero, i.size, i.bytes)) = some (some (.agg #[.int .i64 0, .int .i64 0]), 2, 16) := by kernel_rfl
theorem run_app2 (ty : TypeId) (w : World) (v : Value) (k : Nat) (xs : List Value) (hown : w.ownsRow 0 112 2 v k xs) (ad : Addr) (c : Nat) (x y : Value) (hx : w.cell? ad = some x) (hy : w.cell? (ad.add 1) = some y) (h1 : x.oneCell' = true) (h2 : y.oneCell' = true)
    (hk : k < 8796093022208) :
    ∃ v' w', (Builtin.append_ #[102, 102] ty #[v, .slice (some ad) 1 c]).run Tryz.prog w = .ok v' w' ∧ w'.ownsRow 0 112 2 v' (k + 1) (xs ++ [x, y]) ∧ w.grownBy w' v.ownBlock ∧ Moved w v v' := by
  obtain ⟨i0, hi, hz0, hz1, hz2⟩ := info_parts info50
  refine run_appN 102 ty 112 i0 _ 16 2 Tryz.underlying102 hi hz0 hz1 hz2 rfl (by decide) w v k xs hown ad 1 c [x, y] rfl (fun j u hj => ?_) (by simp [h1, h2]) (by unfold maxLen; omega) (by omega)
  match j, hj with
  | 0, hj => simp at hj; subst hj; simpa [Addr.add] using hx
  | 1, hj => simp at hj; subst hj; exact hy
  | j + 2, hj => simp at hj
theorem wpList_app2 {w : World} {ops : Array Oper} {rest : List Oper} {o : Oper} {a : Act} {Q : Exit → Act → World → Prop} (hgd : o.guard = none) (s t : Operand)
    (ho : o.op = .call { callee := .builtin .append, args := #[s, t], argTypes := #[102, 102] }) (v : Value) (l : List Sp) (hs : a.eval s = v) (hown : Lst w v l)
    (ad : Addr) (c : Nat) (ht : a.eval t = .slice (some ad) 1 c) (x : Sp) (hx : w.cell? ad = some (.int .i64 x.1)) (hy : w.cell? (ad.add 1) = some (.int .i64 x.2)) (hk : l.length < 8796093022208)
    (h : ∀ v' w', Lst w' v' (l ++ [x]) → w.grownBy w' v.ownBlock → Moved w v v' → wpList Tryz.prog ops Q rest (a.put o.dst v') w') : wpList Tryz.prog ops Q (o :: rest) a w := by
  obtain ⟨v', w', hrun, r1, r2, r3⟩ := run_app2 o.type w v l.length (l.flatMap encS) hown ad c _ _ hx hy rfl rfl hk
  refine wpList_plain hgd fun _ hK => ?_
  unfold Oper.wp
  simp [execOp, ho, resolve, invoke, builtin, hs, ht, hrun, Result.andThen]
  exact hK _ _ (h v' w' (Lst.snoc r1) r2 r3)
theorem wpList_appL {w : World} {ops : Array Oper} {rest : List Oper} {o : Oper} {a : Act} {Q : Exit → Act → World → Prop} (hgd : o.guard = none) (s t : Operand)
    (ho : o.op = .call { callee := .builtin .append, args := #[s, t], argTypes := #[102, 102] }) (v : Value) (l m : List Sp) (hs : a.eval s = v) (hown : Lst w v l)
    (ad : Option Addr) (n c : Nat) (ht : a.eval t = .slice ad n c) (hn : m.length = n) (hnil : ad = none → c = 0) (hr : Row w ad m) (hk : l.length + n ≤ 8796093022208)
    (h : ∀ v' w', Lst w' v' (l ++ m) → w.grownBy w' v.ownBlock → Moved w v v' → wpList Tryz.prog ops Q rest (a.put o.dst v') w') : wpList Tryz.prog ops Q (o :: rest) a w := by
  subst hn
  obtain ⟨i0, hi, hz0, hz1, hz2⟩ := info_parts info50
  rcases ad with _ | ad
  · obtain rfl : m = [] := by rcases hr.2.2 with h | ⟨_, _, h, _⟩ <;> simp_all
    obtain rfl := hnil rfl
    exact wpList_append_own_none hgd s t 102 ho 0 112 i0 2 Tryz.underlying102 hi v _ _ hs hown ht (h v w (by simpa using hown) ⟨rfl, rfl, rfl, Nat.le_refl _, fun _ _ _ => rfl⟩ (Moved.refl _ _))
  · obtain ⟨v', w', hrun, r1, r2, r3⟩ := run_appN 102 o.type 112 i0 _ 16 2 Tryz.underlying102 hi hz0 hz1 hz2 rfl (by decide) w v l.length (l.flatMap encS) hown ad m.length c (m.flatMap encS) (flat_two m) (fun j u hj => by
        have hlt : j < m.length * 2 := by
          rw [← flat_two]
          rcases Nat.lt_or_ge j (m.flatMap encS).length with h' | h'
          · exact h'
          · rw [List.getElem?_eq_none h'] at hj; simp at hj
        obtain ⟨x, hx, _⟩ := get_of (show j / 2 < m.length by omega)
        obtain ⟨b, off, hb, c1, c2, _⟩ := hr.at hx
        obtain ⟨f1, f2⟩ := flat_get m (j / 2) x hx
        simp at hb; subst hb
        rw [add_plain]
        rcases Nat.mod_two_eq_zero_or_one j with h0 | h0
        · have e : j / 2 * 2 = j := by omega
          rw [e] at c1 f1; rw [c1, ← hj, f1]
        · have e : j / 2 * 2 + 1 = j := by omega
          rw [e] at f2
          rw [show off + j = off + j / 2 * 2 + 1 from by omega, c2, ← hj, f2]) (flat_one m) (by unfold maxLen; omega) (by omega)
    refine wpList_plain hgd fun _ hK => ?_
    unfold Oper.wp
    simp [execOp, ho, resolve, invoke, builtin, hs, ht, hrun, Result.andThen]
    refine hK _ _ (h v' w' ?_ r2 r3)
    unfold Lst
    rw [List.length_append, List.flatMap_append]
    exact r1
theorem _root_.Go.Proofs.YtkccpidgeecemaaGreatDoor.Away.step {S : List Nat} {a w w' : World} {v : Value} (h : Away S a w) (hgr : w.grownBy w' v.ownBlock) (hv : New a.heap.size v) : Away S a w' := h.grown hgr (fun k hk => .inr (hv k hk))
end Go.Proofs.YtkccpidgeecemaaGreatDoor.H
