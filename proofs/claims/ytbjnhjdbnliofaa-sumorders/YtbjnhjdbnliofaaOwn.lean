/-
  'own': a copy in new memory; what is owned, read as a row; stores.
-/
import Derived.Test.YtbjnhjdbnliofaaKit
import Derived.Laws.AppendOwnNone
import Derived.Laws.OwnMore
namespace Go.Proofs.Ytbjnhjdbnliofaa
open Go.ChangeShapes Go.WideShapes Go.ChangeAt Go.RowKit Num
set_option linter.unusedVariables false

theorem info5 : (Try.prog.info? 5).map (fun i => (i.zero, i.size, i.bytes)) = some (some (.int .u8 0), 1, 1) := by kernel_rfl

/-- v is a slice of the call's own (from block B on) that holds the bytes l. -/
def Owns (B : Nat) (w : World) (v : Value) (l : List Int) : Prop := w.ownsRow B 5 1 v l.length (l.map (Value.int .u8))

theorem Owns.row {B : Nat} {w : World} {v : Value} {l : List Int} (h : Owns B w v l) (hl : l.length ≤ 140737488355328) (hb : Bytes l) :
    ∃ a cap, v = .slice a l.length cap ∧ l.length ≤ cap ∧ (a = none → cap = 0) ∧ Row w a l := by
  have h0 := h
  rcases h.2 with ⟨rfl, h2⟩ | ⟨g, cap, cur, rfl, hg, hh, hn, hc, hs, ht⟩
  · have : l = [] := List.length_eq_zero_iff.mp h2
    subst this
    exact ⟨none, 0, rfl, Nat.le_refl _, fun _ => rfl, by simp, hb, .inl rfl⟩
  · refine ⟨some ⟨g, 0, none⟩, cap, rfl, hn, fun h => by simp at h, hl, hb, .inr ⟨g, 0, rfl, fun i hi => ?_⟩⟩
    rw [Nat.zero_add, World.ownsRow.cellAt h0 i (by omega)]
    simp [hi]

/-- Of one that is not empty: its block. -/
theorem Owns.block {B : Nat} {w : World} {v : Value} {l : List Int} (h : Owns B w v l) (hp : 0 < l.length) :
    ∃ g cap, v = .slice (some ⟨g, 0, none⟩) l.length cap ∧ l.length ≤ cap ∧ B ≤ g ∧ (∀ i, i < l.length → w.cell? ⟨g, i, none⟩ = some (.int .u8 (l[i]?.getD 0))) ∧ ∀ i, w.frozen? ⟨g, i, none⟩ = false := by
  have h0 := h
  rcases h.2 with ⟨rfl, h2⟩ | ⟨g, cap, cur, rfl, hg, hh, hn, hc, hs, ht⟩
  · omega
  · refine ⟨g, cap, rfl, hn, hg, fun i hi => ?_, fun i => World.ownsRow.frozenAt h0 i⟩
    rw [World.ownsRow.cellAt h0 i (by omega)]
    simp [hi]
theorem Owns.set {B g n cap : Nat} {w : World} {l : List Int} (h : Owns B w (.slice (some ⟨g, 0, none⟩) n cap) l) (hn : l.length = n) (j : Nat) (u : Int) :
    Owns B (w.setCell ⟨g, j, none⟩ (.int .u8 u)) (.slice (some ⟨g, 0, none⟩) n cap) (l.set j u) := by
  subst hn
  have := (World.ownsRow.stored h j (.int .u8 u)).1
  unfold Owns
  rw [List.length_set, List.map_set]
  exact this
theorem Owns.below {B C : Nat} {w w' : World} {v : Value} {l : List Int} (h : Owns B w v l) (hb : Below C w w') (hC : w.heap.size ≤ C) : Owns B w' v l := by
  obtain ⟨h1, h2⟩ := h
  refine ⟨h1, ?_⟩
  rcases h2 with h2 | ⟨g, cap, cur, rfl, hg, hh, r⟩
  · exact .inl h2
  · refine .inr ⟨g, cap, cur, rfl, hg, ?_, r⟩
    have hlt : g < w.heap.size := by
      rcases Nat.lt_or_ge g w.heap.size with h | h
      · exact h
      · rw [Array.getElem?_eq_none h] at hh; simp at hh
    rw [hb.block g (by omega)]
    exact hh
theorem Owns.drewN {B : Nat} {w : World} {v : Value} {l : List Int} (h : Owns B w v l) (n : Nat) : Owns B (w.drewN n) v l := h

theorem cells_of {w : World} {b off : Nat} {l : List Int} (hc : ∀ i, i < l.length → w.cell? ⟨b, off + i, none⟩ = some (.int .u8 (l[i]?.getD 0))) (j : Nat) (u : Value) (hj : (l.map (Value.int .u8))[j]? = some u) : w.cell? ((⟨b, off, none⟩ : Addr).add j) = some u := by
  have hlt : j < l.length := by
    rcases Nat.lt_or_ge j l.length with h | h
    · exact h
    · rw [List.getElem?_eq_none (by simpa using h)] at hj; simp at hj
  rw [add_plain, hc j hlt]
  simp [List.getElem?_eq_getElem hlt] at hj ⊢
  exact hj
theorem oneCell_bytes (l : List Int) : ∀ u ∈ l.map (Value.int .u8), u.oneCell' = true := by
  intro u hu
  obtain ⟨n, _, rfl⟩ := List.mem_map.mp hu
  rfl

set_option maxHeartbeats 400000 in
theorem own_any (a : Option Addr) (l : List Int) (cap : Nat) (w : World) (ha : a = none → cap = 0) (hr : Row w a l) :
    Calls Try.prog 14 #[.slice a l.length cap] w fun e w' => ∃ v, e = .returned v ∧ Owns w.heap.size w' v l ∧ Below w.heap.size w w' := by
  obtain ⟨i0, hi, hz0, hz1, hz2⟩ := info_parts info5
  obtain ⟨hl, hb, hc⟩ := hr
  rcases a with _ | ad
  · have h0 : l = [] := by rcases hc with h | ⟨_, _, h, _⟩ <;> simp_all
    subst h0
    obtain rfl := ha rfl
    go_enter Try.func14, Try.ntmps14
    go_wp2_with (at_builtin; refine wpList_append_own_none rfl _ _ 26 rfl w.heap.size 5 i0 1 Try.underlying26 hi _ _ _ rfl (World.ownsRow_nil _ _ _ _) rfl ?_)
    go_ret
    exact ⟨_, rfl, World.ownsRow_nil _ _ _ _, Below.refl _ _⟩
  · have hcs : ∀ j u, (l.map (Value.int .u8))[j]? = some u → w.cell? (ad.add j) = some u := by
      rcases hc with rfl | ⟨b, off, h, hc⟩
      · intro j u hj; simp at hj
      · simp at h; subst h
        exact cells_of hc
    have h1 := oneCell_bytes l
    have H1 : Hid (∀ j u, (l.map (Value.int .u8))[j]? = some u → w.cell? (ad.add j) = some u) := hcs
    have H2 : Hid (∀ u ∈ l.map (Value.int .u8), u.oneCell' = true) := h1
    clear hcs h1 hc
    go_enter Try.func14, Try.ntmps14
    go_wp2_with (at_builtin; refine wpList_append_own _ rfl _ _ 26 rfl w.heap.size 5 i0 (.int .u8 0) 1 1 Try.underlying26 hi hz0 hz1 hz2 rfl (by decide) _ _ _ rfl (World.ownsRow_nil _ _ _ _) ad l.length cap (l.map (Value.int .u8)) rfl (by simp) ?c1 ?c2 ?c3 ?c4 ?c5 ?_)
    case c1 => exact H1.out
    case c2 => exact H2.out
    case c3 => unfold maxLen; omega
    case c4 => omega
    case c5 => exact Nat.le_refl _
    · intro v' w1 hown hgrow _
      go_wp2
      go_ret
      exact ⟨v', rfl, hown, (Below.refl _ _).grown hgrow (Nat.le_refl _) (by intro k hk; simp [Value.ownBlock] at hk)⟩
theorem Owns.at {B : Nat} {w : World} {v : Value} {l : List Int} (h : Owns B w v l) : ∀ k, v.ownBlock = some k → B ≤ k := by
  intro k hk
  rcases h.2 with ⟨rfl, h2⟩ | ⟨g, cap, cur, rfl, hg, _⟩
  · simp [Value.ownBlock] at hk
  · simp [Value.ownBlock] at hk; omega
theorem Owns.grown {B C : Nat} {w0 w w' : World} {v : Value} {l : List Int} (h : Owns B w v l) (hb : Below C w0 w) (hg : w.grownBy w' v.ownBlock) (hC : C ≤ w.heap.size) (hCB : C ≤ B) : Below C w0 w' :=
  hb.grown hg hC (fun k hk => by have := h.at k hk; omega)
/-- An append of bytes to a slice of the call's own. -/
theorem wpList_app {w : World} {ops : Array Oper} {rest : List Oper} {o : Oper} {a : Act} {Q : Exit → Act → World → Prop} (hgd : o.guard = none) (s x : Operand)
    (ho : o.op = .call { callee := .builtin .append, args := #[s, x], argTypes := #[26, 26] }) (B : Nat) (v : Value) (l m : List Int) (hs : a.eval s = v) (hown : Owns B w v l)
    (ad : Addr) (n c : Nat) (hx : a.eval x = .slice (some ad) n c) (hn : m.length = n) (hm : ∀ j u, (m.map (Value.int .u8))[j]? = some u → w.cell? (ad.add j) = some u) (hlen : l.length + n ≤ 140737488355328) (hB : B ≤ w.heap.size)
    (h : ∀ v' w', Owns B w' v' (l ++ m) → w.grownBy w' v.ownBlock → wpList Try.prog ops Q rest (a.put o.dst v') w') : wpList Try.prog ops Q (o :: rest) a w := by
  obtain ⟨i0, hi, hz0, hz1, hz2⟩ := info_parts info5
  refine wpList_append_own _ hgd s x 26 ho B 5 i0 (.int .u8 0) 1 1 Try.underlying26 hi hz0 hz1 hz2 rfl (by decide) v l.length (l.map (Value.int .u8)) hs hown ad n c (m.map (Value.int .u8)) hx (by simp [hn]) hm (oneCell_bytes m) (by unfold maxLen; omega) (by omega) hB ?_
  intro v' w' h1 h2 _
  refine h v' w' ?_ h2
  unfold Owns
  rw [List.length_append, List.map_append, hn]
  exact h1
/-- The bytes of a literal. -/
theorem lit_cells (w : World) (m : List Int) (n : Nat) (hn : n = w.heap.size) : ∀ j u, (m.map (Value.int .u8))[j]? = some u → (w.alloc (.cells (m.map (Value.int .u8)).toArray 5)).cell? ((⟨n, 0, none⟩ : Addr).add j) = some u := by
  intro j u hj
  rw [add_plain, Nat.zero_add, World.cell?_alloc_at (hn := hn)]
  simpa using hj
theorem Owns.alloc {B : Nat} {w : World} {v : Value} {l : List Int} (h : Owns B w v l) (o : Obj) : Owns B (w.alloc o) v l := h.below ((Below.refl w.heap.size w).alloc (Nat.le_refl _) o) (Nat.le_refl _)
theorem Owns.row' {B n cap : Nat} {a : Option Addr} {w : World} {l : List Int} (h : Owns B w (.slice a n cap) l) (hl : l.length ≤ 140737488355328) (hb : Bytes l) : Row w a l := by
  obtain ⟨a', cap', hv, _, _, hr⟩ := h.row hl hb
  simp only [Value.slice.injEq] at hv
  rw [hv.1]
  exact hr
/-- Two bytes written, one behind the other. -/
theorem Owns.set2 {B g n cap : Nat} {w : World} {l : List Int} (h : Owns B w (.slice (some ⟨g, 0, none⟩) n cap) l) (hn : l.length = n) (i j : Nat) (x y : Int) :
    Owns B ((w.setCell ⟨g, i, none⟩ (.int .u8 x)).setCell ⟨g, j, none⟩ (.int .u8 y)) (.slice (some ⟨g, 0, none⟩) n cap) ((l.set i x).set j y) := (h.set hn i x).set (by simpa using hn) j y
theorem below_set2 {B C g i j : Nat} {w0 w : World} {u v : Value} (h : Below C w0 w) (hg : C ≤ g) : Below C w0 ((w.setCell ⟨g, i, none⟩ u).setCell ⟨g, j, none⟩ v) := (h.setCell hg u).setCell hg v
theorem Owns.cells {B g n cap : Nat} {w : World} {l : List Int} (h : Owns B w (.slice (some ⟨g, 0, none⟩) n cap) l) (i : Nat) (hi : i < l.length) :
    w.cell? ⟨g, i, none⟩ = some (.int .u8 (l[i]?.getD 0)) ∧ w.frozen? ⟨g, i, none⟩ = false := by
  obtain ⟨g', cap', hv, _, _, hc, hf⟩ := h.block (by omega)
  simp only [Value.slice.injEq, Option.some.injEq, Addr.mk.injEq, and_true] at hv
  obtain ⟨rfl, _, _⟩ := hv
  exact ⟨hc i hi, hf i⟩
#print axioms own_any
end Go.Proofs.Ytbjnhjdbnliofaa
