/-
  What the contracts stand on: lists of bytes, worlds that part in some blocks alone, slices of the program's own, appends.
-/
import Derived.Test.YtkccpidgeecemaaGreatDoorNumA
import Derived.WalkKit
import Derived.Deep.RegionHeld3
import Derived.OpenShut
import Derived.Laws.BitsAllLaws
import Derived.Deep.QuietTactic
import Derived.BigQuiet
import Derived.BigRegion
import Derived.WalkSmall
import Derived.Laws.Rows
import Derived.ProofKit
import Derived.ShutString
import Derived.ChangeOld
import Derived.Below
import Derived.SizedLaws
import Derived.Laws.AppendOwnNone
import Derived.Laws.OwnMore
import Derived.ArgAppend
namespace Go.Proofs.YtkccpidgeecemaaGreatDoor
open Go.ChangeShapes Go.WideShapes Go.ChangeAt Go.RowKit
set_option linter.unusedVariables false
theorem ret_int {k : IntKind} {a b : Int} (h : a = b) : Ending.returned (.int k a) = .returned (.int k b) := by rw [h]
/-! Worlds that part in the blocks S, and in new ones, alone. -/
structure Away (S : List Nat) (w w' : World) : Prop where
  os : w'.os = w.os
  tape : w'.tape = w.tape
  output : w'.output = w.output
  size : w.heap.size ≤ w'.heap.size
  block : ∀ k, k < w.heap.size → k ∉ S → w'.heap[k]? = w.heap[k]?
theorem Away.refl (S : List Nat) (w : World) : Away S w w := ⟨rfl, rfl, rfl, Nat.le_refl _, fun _ _ _ => rfl⟩
theorem Away.next {S T : List Nat} {a b c : World} (h : Away S a b) (k : Away T b c) (hT : ∀ x ∈ T, x ∈ S ∨ a.heap.size ≤ x) : Away S a c :=
  ⟨k.os.trans h.os, k.tape.trans h.tape, k.output.trans h.output, Nat.le_trans h.size k.size, fun i hi hn =>
    (k.block i (Nat.lt_of_lt_of_le hi h.size) (fun hm => by rcases hT i hm with h | h; exact hn h; omega)).trans (h.block i hi hn)⟩
theorem Away.mono {S T : List Nat} {a b : World} (h : Away S a b) (hT : ∀ x ∈ S, x ∈ T) : Away T a b := ⟨h.os, h.tape, h.output, h.size, fun i hi hn => h.block i hi (fun hm => hn (hT i hm))⟩
theorem Away.trans {S : List Nat} {a b c : World} (h : Away S a b) (k : Away S b c) : Away S a c := h.next k (fun _ hx => .inl hx)
theorem Away.drew {S : List Nat} {a w : World} (h : Away S a w) : Away S a w.drew := ⟨h.os, h.tape, h.output, h.size, h.block⟩
theorem Away.drewN {S : List Nat} {a w : World} (h : Away S a w) (n : Nat) : Away S a (w.drewN n) := ⟨h.os, h.tape, h.output, h.size, h.block⟩
theorem Away.alloc {S : List Nat} {a w : World} (h : Away S a w) (o : Obj) : Away S a (w.alloc o) :=
  ⟨h.os, h.tape, h.output, by simp; have := h.size; omega, fun i hi hn => (Below.heap_alloc _ _ _ (by have := h.size; omega)).trans (h.block i hi hn)⟩
theorem Away.setCell {S : List Nat} {a w : World} (h : Away S a w) {p : Addr} (hp : p.block ∈ S ∨ a.heap.size ≤ p.block) (u : Value) : Away S a (w.setCell p u) :=
  ⟨h.os, h.tape, h.output, by simpa using h.size, fun i hi hn => (Below.heap_setCell _ _ _ _ (fun e => by subst e; rcases hp with h | h; exact hn h; omega)).trans (h.block i hi hn)⟩
theorem Away.grown {S : List Nat} {a w w' : World} {row : Option Nat} (h : Away S a w) (hg : w.grownBy w' row) (hr : ∀ k, row = some k → k ∈ S ∨ a.heap.size ≤ k) : Away S a w' :=
  ⟨hg.os.trans h.os, hg.tape.trans h.tape, hg.output.trans h.output, Nat.le_trans h.size hg.size, fun i hi hn =>
    (hg.block i (Nat.lt_of_lt_of_le hi h.size) (fun e => by rcases hr i e.symm with h | h; exact hn h; omega)).trans (h.block i hi hn)⟩
theorem Away.below {S : List Nat} {C : Nat} {w0 w w' : World} (h : Away S w w') (hb : Below C w0 w) (hS : ∀ k ∈ S, C ≤ k) (hC : C ≤ w.heap.size) : Below C w0 w' :=
  ⟨h.os.trans hb.os, h.tape.trans hb.tape, h.output.trans hb.output, Nat.le_trans hb.size h.size, fun i hi => (h.block i (by omega) (fun hm => by have := hS i hm; omega)).trans (hb.block i hi)⟩
theorem Away.of_below {w w' : World} (h : Below w.heap.size w w') : Away [] w w' := ⟨h.os, h.tape, h.output, h.size, fun i hi _ => h.block i hi⟩
theorem Away.to_below {w w' : World} (h : Away [] w w') : Below w.heap.size w w' := ⟨h.os, h.tape, h.output, h.size, fun i hi => h.block i hi (by simp)⟩
theorem Away.cell {S : List Nat} {w w' : World} (h : Away S w w') {b o : Nat} (hb : b ∉ S) {v : Value} (hc : w.cell? ⟨b, o, none⟩ = some v) : w'.cell? ⟨b, o, none⟩ = some v :=
  (World.cell?_of_block (w := w) (a := ⟨b, o, none⟩) (h.block b (block_lt_of_cell hc) hb)).trans hc
/-! Blocks that are known whole. -/
theorem lt_of_block {w : World} {g : Nat} {o : Obj} (h : w.heap[g]? = some o) : g < w.heap.size := by
  rcases Nat.lt_or_ge g w.heap.size with h' | h'
  · exact h'
  · rw [Array.getElem?_eq_none h'] at h; simp at h
theorem cell_of_block {w : World} {g : Nat} {cs : Array Value} {t : TypeId} (h : w.heap[g]? = some (.cells cs t (0, 0))) (i : Nat) : w.cell? ⟨g, i, none⟩ = cs[i]? := by simp [World.cell?, h]
theorem free_of_block {w : World} {g : Nat} {cs : Array Value} {t : TypeId} (h : w.heap[g]? = some (.cells cs t (0, 0))) (i : Nat) : w.frozen? ⟨g, i, none⟩ = false := by simp [World.frozen?, h]
theorem block_set {w : World} {g : Nat} {cs : Array Value} {t : TypeId} (h : w.heap[g]? = some (.cells cs t (0, 0))) (i : Nat) (u : Value) :
    (w.setCell ⟨g, i, none⟩ u).heap[g]? = some (.cells (cs.setIfInBounds i u) t (0, 0)) := by simp [World.setCell, Array.getElem?_modify, h]
theorem block_set_other {w : World} {g h : Nat} (hg : g ≠ h) (i : Nat) (u : Value) : (w.setCell ⟨h, i, none⟩ u).heap[g]? = w.heap[g]? := Below.heap_setCell _ _ _ _ hg
theorem block_new (w : World) (o : Obj) : (w.alloc o).heap[w.heap.size]? = some o := heap_alloc_new w o
theorem Away.keep {S : List Nat} {w w' : World} (h : Away S w w') {g : Nat} (hg : g ∉ S) {o : Obj} (hb : w.heap[g]? = some o) : w'.heap[g]? = some o := (h.block g (lt_of_block hb) hg).trans hb
/-! The bytes l lie at a. -/
def Row (w : World) (a : Option Addr) (l : List Int) : Prop :=
  l.length ≤ 140737488355328 ∧ Bytes l ∧ (l = [] ∨ ∃ b off, a = some ⟨b, off, none⟩ ∧ ∀ i, i < l.length → w.cell? ⟨b, off + i, none⟩ = some (.int .u8 (l[i]?.getD 0)))
theorem Row.away {S : List Nat} {w w' : World} {a : Option Addr} {l : List Int} (h : Row w a l) (hw : Away S w w') (ha : ∀ x, a = some x → x.block ∉ S) : Row w' a l := by
  obtain ⟨h1, h2, h3⟩ := h
  refine ⟨h1, h2, ?_⟩
  rcases h3 with h3 | ⟨b, off, rfl, hc⟩
  · exact .inl h3
  · exact .inr ⟨b, off, rfl, fun i hi => hw.cell (ha _ rfl) (hc i hi)⟩
theorem Row.below {w w' : World} {a : Option Addr} {l : List Int} (h : Row w a l) (hb : Below w.heap.size w w') : Row w' a l := h.away (Away.of_below hb) (by simp)
theorem Row.drewN {w : World} {a : Option Addr} {l : List Int} (h : Row w a l) (n : Nat) : Row (w.drewN n) a l := h
theorem Row.nil (w : World) (a : Option Addr) : Row w a [] := ⟨by simp, Bytes.nil, .inl rfl⟩
theorem Row.sub {w : World} {a : Option Addr} {l : List Int} (h : Row w a l) (k m cap : Nat) (hcap : l.length ≤ cap) (hk : k ≤ l.length) : Row w (if cap = k then a else a.map (·.add k)) ((l.drop k).take m) := by
  obtain ⟨h1, h2, h3⟩ := h
  refine ⟨by simp; omega, (h2.drop k).take m, ?_⟩
  by_cases he : (l.drop k).take m = []
  · exact .inl he
  · right
    have hne : k < l.length := by
      rcases Nat.lt_or_ge k l.length with h | h
      · exact h
      · exact absurd (by rw [List.drop_eq_nil_of_le h]; simp) he
    rcases h3 with rfl | ⟨b, off, rfl, hc⟩
    · simp at hne
    · refine ⟨b, off + k, by rw [if_neg (by omega)]; simp [add_plain], fun i hi => ?_⟩
      have hi' : i < m ∧ k + i < l.length := by simp at hi; omega
      rw [List.getElem?_take, if_pos hi'.1, List.getElem?_drop, Nat.add_assoc]
      exact hc (k + i) hi'.2
theorem Row.tail {w : World} {a : Option Addr} {l : List Int} (h : Row w a l) (k cap : Nat) (hcap : l.length ≤ cap) (hk : k ≤ l.length) : Row w (if cap = k then a else a.map (·.add k)) (l.drop k) := by
  have := h.sub k l.length cap hcap hk
  rwa [List.take_of_length_le (by simp)] at this
theorem Row.head {w : World} {a : Option Addr} {l : List Int} (h : Row w a l) (m : Nat) : Row w a (l.take m) := by
  obtain ⟨h1, h2, h3⟩ := h
  refine ⟨by simp; omega, h2.take m, ?_⟩
  rcases h3 with rfl | ⟨b, off, rfl, hc⟩
  · left; simp
  · right
    refine ⟨b, off, rfl, fun i hi => ?_⟩
    have hi' : i < m ∧ i < l.length := by simp at hi; omega
    rw [List.getElem?_take, if_pos hi'.1]
    exact hc i hi'.2
/-! A slice of the program's own: nil, or a block of its own, whole. -/
def OwnsG (e : TypeId) (w : World) (v : Value) (xs : List Value) : Prop := w.ownsRow 0 e 1 v xs.length xs
def Owns (w : World) (v : Value) (l : List Int) : Prop := OwnsG 5 w v (l.map (Value.int .u8))
theorem OwnsG.away {e : TypeId} {S : List Nat} {w w' : World} {v : Value} {l : List Value} (h : OwnsG e w v l) (hw : Away S w w') (ha : ∀ k, v.ownBlock = some k → k ∉ S) : OwnsG e w' v l := by
  obtain ⟨h1, h2⟩ := h
  refine ⟨h1, ?_⟩
  rcases h2 with h2 | ⟨g, cap, cur, rfl, hg, hh, r⟩
  · exact .inl h2
  · exact .inr ⟨g, cap, cur, rfl, hg, hw.keep (ha g rfl) hh, r⟩
theorem Owns.away {S : List Nat} {w w' : World} {v : Value} {l : List Int} (h : Owns w v l) (hw : Away S w w') (ha : ∀ k, v.ownBlock = some k → k ∉ S) : Owns w' v l := OwnsG.away h hw ha
theorem OwnsG.lt {e : TypeId} {w : World} {v : Value} {l : List Value} (h : OwnsG e w v l) : ∀ k, v.ownBlock = some k → k < w.heap.size := fun k hk => (World.ownsRow.lt h k hk).2
theorem Owns.lt {w : World} {v : Value} {l : List Int} (h : Owns w v l) : ∀ k, v.ownBlock = some k → k < w.heap.size := OwnsG.lt h
theorem OwnsG.nil (e : TypeId) (w : World) : OwnsG e w (.slice none 0 0) [] := World.ownsRow_nil _ _ _ _
theorem Owns.nil (w : World) : Owns w (.slice none 0 0) [] := World.ownsRow_nil _ _ _ _
theorem Owns.row {w : World} {v : Value} {l : List Int} (h : Owns w v l) (hl : l.length ≤ 140737488355328) (hb : Bytes l) :
    ∃ a cap, v = .slice a l.length cap ∧ l.length ≤ cap ∧ (a = none → cap = 0) ∧ Row w a l ∧ (∀ x, a = some x → v.ownBlock = some x.block) ∧ (∀ x, a = some x → x.spot = none ∧ x.off = 0) := by
  have h0 := h
  rcases h.2 with ⟨rfl, h2⟩ | ⟨g, cap, cur, rfl, hg, hh, hn, hc, hs, ht⟩
  · have : l = [] := by simpa using h2
    subst this
    exact ⟨none, 0, rfl, Nat.le_refl _, fun _ => rfl, Row.nil _ _, by simp, by simp⟩
  · simp only [List.length_map] at hn
    refine ⟨some ⟨g, 0, none⟩, cap, by simp, hn, by simp, ⟨hl, hb, .inr ⟨g, 0, rfl, fun i hi => ?_⟩⟩, by simp [Value.ownBlock], by simp⟩
    rw [Nat.zero_add, World.ownsRow.cellAt h0 i (by simp; omega)]
    simp [hi]
theorem Owns.row' {n cap : Nat} {a : Option Addr} {w : World} {l : List Int} (h : Owns w (.slice a n cap) l) (hl : l.length ≤ 140737488355328) (hb : Bytes l) : Row w a l := by
  obtain ⟨a', cap', hv, _, _, hr, _⟩ := h.row hl hb
  simp only [Value.slice.injEq] at hv
  rw [hv.1]
  exact hr
theorem OwnsG.cells {e : TypeId} {g n cap : Nat} {w : World} {l : List Value} (h : OwnsG e w (.slice (some ⟨g, 0, none⟩) n cap) l) (i : Nat) (hi : i < l.length) :
    w.cell? ⟨g, i, none⟩ = l[i]? ∧ w.frozen? ⟨g, i, none⟩ = false := by
  have hn : n = l.length := by
    rcases h.2 with ⟨h2, _⟩ | ⟨g', cap', cur, h2, _⟩
    · simp at h2
    · simp only [Value.slice.injEq] at h2; exact h2.2.1
  subst hn
  exact ⟨World.ownsRow.cellAt h i (by omega), World.ownsRow.frozenAt h i⟩
theorem Owns.cells {g n cap : Nat} {w : World} {l : List Int} (h : Owns w (.slice (some ⟨g, 0, none⟩) n cap) l) (i : Nat) (hi : i < l.length) :
    w.cell? ⟨g, i, none⟩ = some (.int .u8 (l[i]?.getD 0)) ∧ w.frozen? ⟨g, i, none⟩ = false := by
  have := OwnsG.cells h i (by simpa using hi)
  refine ⟨?_, this.2⟩
  rw [this.1]; simp [hi]
theorem OwnsG.set {e : TypeId} {g n cap : Nat} {w : World} {l : List Value} (h : OwnsG e w (.slice (some ⟨g, 0, none⟩) n cap) l) (hn : l.length = n) (j : Nat) (u : Value) :
    OwnsG e (w.setCell ⟨g, j, none⟩ u) (.slice (some ⟨g, 0, none⟩) n cap) (l.set j u) := by
  subst hn
  have := (World.ownsRow.stored h j u).1
  unfold OwnsG
  rw [List.length_set]
  exact this
theorem Owns.set {g n cap : Nat} {w : World} {l : List Int} (h : Owns w (.slice (some ⟨g, 0, none⟩) n cap) l) (hn : l.length = n) (j : Nat) (u : Int) :
    Owns (w.setCell ⟨g, j, none⟩ (.int .u8 u)) (.slice (some ⟨g, 0, none⟩) n cap) (l.set j u) := by
  have := OwnsG.set h (by simpa using hn) j (.int .u8 u)
  unfold Owns
  rw [List.map_set]
  exact this
theorem oneCell_bytes (l : List Int) : ∀ u ∈ l.map (Value.int .u8), u.oneCell' = true := by
  intro u hu
  obtain ⟨n, _, rfl⟩ := List.mem_map.mp hu
  rfl
theorem cells_of {w : World} {b off : Nat} {l : List Int} (hc : ∀ i, i < l.length → w.cell? ⟨b, off + i, none⟩ = some (.int .u8 (l[i]?.getD 0))) (j : Nat) (u : Value) (hj : (l.map (Value.int .u8))[j]? = some u) : w.cell? ((⟨b, off, none⟩ : Addr).add j) = some u := by
  have hlt : j < l.length := by
    rcases Nat.lt_or_ge j l.length with h | h
    · exact h
    · rw [List.getElem?_eq_none (by simpa using h)] at hj; simp at hj
  rw [add_plain, hc j hlt]
  simp [List.getElem?_eq_getElem hlt] at hj ⊢
  exact hj
theorem lit_cells (w : World) (m : List Int) (n : Nat) (hn : n = w.heap.size) : ∀ j u, (m.map (Value.int .u8))[j]? = some u → (w.alloc (.cells (m.map (Value.int .u8)).toArray 5)).cell? ((⟨n, 0, none⟩ : Addr).add j) = some u := by
  intro j u hj
  rw [add_plain, Nat.zero_add, World.cell?_alloc_at (hn := hn)]
  simpa using hj
theorem Row.src {w : World} {a : Addr} {l : List Int} (h : Row w (some a) l) : ∀ j u, (l.map (Value.int .u8))[j]? = some u → w.cell? (a.add j) = some u := by
  rcases h.2.2 with rfl | ⟨b, off, h, hc⟩
  · intro j u hj; simp at hj
  · simp at h; subst h
    exact cells_of hc
def Moved (w : World) (v v' : Value) : Prop := ∀ k, v'.ownBlock = some k → v.ownBlock = some k ∨ w.heap.size ≤ k
theorem Moved.refl (w : World) (v : Value) : Moved w v v := fun k h => .inl h
theorem info5 : (Tryz.prog.info? 5).map (fun i => (i.zero, i.size, i.bytes)) = some (some (.int .u8 0), 1, 1) := by kernel_rfl
theorem run_app (t ty e : TypeId) (i0 : TypeInfo) (z : Value) (bytes : Nat) (ht : Tryz.prog.underlying t = some (.slice e)) (hi : Tryz.prog.info? e = some i0) (hz : i0.zero = some z) (hs1 : i0.size = 1) (hb1 : i0.bytes = bytes) (hzs : z.cells.size = 1)
    (w : World) (v : Value) (xs : List Value) (hown : OwnsG e w v xs) (ad : Addr) (m c : Nat) (news : List Value) (hn : news.length = m) (hm : ∀ j u, news[j]? = some u → w.cell? (ad.add j) = some u) (h1 : ∀ u ∈ news, u.oneCell' = true)
    (h63 : xs.length + m ≤ maxLen) (hbytes : (xs.length + m) * bytes ≤ 140737488355328) :
    ∃ v' w', (Builtin.append_ #[t, t] ty #[v, .slice (some ad) m c]).run Tryz.prog w = .ok v' w' ∧ OwnsG e w' v' (xs ++ news) ∧ w.grownBy w' v.ownBlock ∧ Moved w v v' := by
  have fin : ∀ {B : Nat} {v' : Value} {w' : World}, w'.ownsRow B e 1 v' (xs.length + m) (xs ++ news) → OwnsG e w' v' (xs ++ news) := by
    intro B v' w' h
    unfold OwnsG
    rw [List.length_append, hn]
    obtain ⟨h1, h2⟩ := h
    refine ⟨h1, ?_⟩
    rcases h2 with h2 | ⟨g, cap, cur, rfl, hg, r⟩
    · exact .inl h2
    · exact .inr ⟨g, cap, cur, rfl, by omega, r⟩
  rcases hown.2 with ⟨rfl, h0⟩ | ⟨g, cap, cur, rfl, hg, hh, hnc, hcm, hcs, htake⟩
  · have hx : xs = [] := List.eq_nil_of_length_eq_zero h0
    subst hx
    obtain ⟨v', w', hrun, r1, r2, _⟩ := run_append_own (P := Tryz.prog) w w.heap.size t ty e i0 z 1 bytes ht hi hz hs1 hb1 hzs (by decide) (.slice none 0 0) 0 [] (World.ownsRow_nil _ _ _ _) ad m c news (by omega) hm h1 (by simpa using h63) (by simpa using hbytes) (Nat.le_refl _)
    exact ⟨v', w', hrun, by simpa using fin (by simpa using r1), r2, fun k hk => .inr (World.ownsRow.lt r1 k hk).1⟩
  · by_cases hroom : xs.length + m ≤ cap
    · obtain ⟨w', hrun, r1, r2⟩ := run_append_fits (P := Tryz.prog) w 0 t ty e i0 1 ht hi hs1 g xs.length cap xs hown ad m c news (by omega) hm h1 hroom
      exact ⟨_, w', hrun, fin r1, r2, fun k hk => .inl hk⟩
    · obtain ⟨v', w', hrun, r1, r2⟩ := run_append_arg_grows (P := Tryz.prog) w t ty e i0 z 1 bytes ht hi hz hs1 hb1 hzs (by decide) ⟨g, 0, none⟩ xs.length cap xs (by omega) (fun j u hu => by
          have hj : j < xs.length := by
            rcases Nat.lt_or_ge j xs.length with h | h
            · exact h
            · rw [List.getElem?_eq_none h] at hu; simp at hu
          rw [add_plain, Nat.zero_add, World.ownsRow.cellAt hown j (by omega)]; exact hu) ad m c news (by omega) hm (by omega) h63 hbytes
      exact ⟨v', w', hrun, fin r1, ⟨r2.os, r2.tape, r2.output, r2.size, fun k hk _ => r2.block k hk (by simp)⟩, fun k hk => .inr (World.ownsRow.lt r1 k hk).1⟩
theorem run_appB (ty : TypeId) (w : World) (v : Value) (l m : List Int) (hown : Owns w v l) (ad : Addr) (n c : Nat) (hn : m.length = n) (hm : ∀ j u, (m.map (Value.int .u8))[j]? = some u → w.cell? (ad.add j) = some u) (hlen : l.length + n ≤ 140737488355328) :
    ∃ v' w', (Builtin.append_ #[37, 37] ty #[v, .slice (some ad) n c]).run Tryz.prog w = .ok v' w' ∧ Owns w' v' (l ++ m) ∧ w.grownBy w' v.ownBlock ∧ Moved w v v' := by
  obtain ⟨i0, hi, hz0, hz1, hz2⟩ := info_parts info5
  obtain ⟨v', w', h1, h2, h3, h4⟩ := run_app 37 ty 5 i0 (.int .u8 0) 1 Tryz.underlying37 hi hz0 hz1 hz2 rfl w v (l.map (Value.int .u8)) hown ad n c (m.map (Value.int .u8)) (by simpa using hn) hm (oneCell_bytes m) (by unfold maxLen; simp; omega) (by simp; omega)
  exact ⟨v', w', h1, by unfold Owns; rw [List.map_append]; exact h2, h3, h4⟩
theorem wpList_app {w : World} {ops : Array Oper} {rest : List Oper} {o : Oper} {a : Act} {Q : Exit → Act → World → Prop} (hgd : o.guard = none) (s x : Operand)
    (ho : o.op = .call { callee := .builtin .append, args := #[s, x], argTypes := #[37, 37] }) (v : Value) (l m : List Int) (hs : a.eval s = v) (hown : Owns w v l)
    (ad : Addr) (n c : Nat) (hx : a.eval x = .slice (some ad) n c) (hn : m.length = n) (hm : ∀ j u, (m.map (Value.int .u8))[j]? = some u → w.cell? (ad.add j) = some u) (hlen : l.length + n ≤ 140737488355328)
    (h : ∀ v' w', Owns w' v' (l ++ m) → w.grownBy w' v.ownBlock → Moved w v v' → wpList Tryz.prog ops Q rest (a.put o.dst v') w') : wpList Tryz.prog ops Q (o :: rest) a w := by
  obtain ⟨v', w', hrun, r1, r2, r3⟩ := run_appB o.type w v l m hown ad n c hn hm hlen
  refine wpList_plain hgd fun _ hK => ?_
  unfold Oper.wp
  simp [execOp, ho, resolve, invoke, builtin, hs, hx, hrun, Result.andThen]
  exact hK _ _ (h v' w' r1 r2 r3)
theorem wpList_app_none {w : World} {ops : Array Oper} {rest : List Oper} {o : Oper} {a : Act} {Q : Exit → Act → World → Prop} (hgd : o.guard = none) (s x : Operand)
    (ho : o.op = .call { callee := .builtin .append, args := #[s, x], argTypes := #[37, 37] }) (v : Value) (l : List Int) (hs : a.eval s = v) (hown : Owns w v l) (hx : a.eval x = .slice none 0 0)
    (h : wpList Tryz.prog ops Q rest (a.put o.dst v) w) : wpList Tryz.prog ops Q (o :: rest) a w := by
  obtain ⟨i0, hi, hz0, hz1, hz2⟩ := info_parts info5
  exact wpList_append_own_none hgd s x 37 ho 0 5 i0 1 Tryz.underlying37 hi v _ _ hs hown hx h
theorem step_app {ops : Array Oper} {o : Oper} {a : Act} {w : World} {K : Act → World → Prop} {Q : Exit → Act → World → Prop} {E : Prop} (hg : o.guard = none) (s x : Operand)
    (hop : o.op = .call { callee := .builtin .append, args := #[s, x], argTypes := #[37, 37] }) (v : Value) (l m : List Int) (hs : a.eval s = v) (hown : Owns w v l)
    (ad : Addr) (n c : Nat) (hx : a.eval x = .slice (some ad) n c) (hn : m.length = n) (hm : ∀ j u, (m.map (Value.int .u8))[j]? = some u → w.cell? (ad.add j) = some u) (hlen : l.length + n ≤ 140737488355328)
    (hK : ∀ v' w', Owns w' v' (l ++ m) → w.grownBy w' v.ownBlock → Moved w v v' → K (a.put o.dst v') w') :
    if Region.wanted o (yielded ops a.tmps) = true then Oper.wp Tryz.prog o a w K Q else E := by
  have hw : Region.wanted o (yielded ops a.tmps) = true := by simp [Region.wanted, hg]
  rw [if_pos hw]
  obtain ⟨v', w', hrun, r1, r2, r3⟩ := run_appB o.type w v l m hown ad n c hn hm hlen
  unfold Oper.wp
  simp [execOp, hop, resolve, invoke, builtin, hs, hx, hrun, Result.andThen]
  exact hK v' w' r1 r2 r3
theorem run_appN (t ty e : TypeId) (i0 : TypeInfo) (z : Value) (bytes sz : Nat) (ht : Tryz.prog.underlying t = some (.slice e)) (hi : Tryz.prog.info? e = some i0) (hz : i0.zero = some z) (hs1 : i0.size = sz) (hb1 : i0.bytes = bytes) (hzs : z.cells.size = sz) (hpos : 0 < sz)
    (w : World) (v : Value) (k : Nat) (xs : List Value) (hown : w.ownsRow 0 e sz v k xs) (ad : Addr) (m c : Nat) (news : List Value) (hn : news.length = m * sz) (hm : ∀ j u, news[j]? = some u → w.cell? (ad.add j) = some u) (h1 : ∀ u ∈ news, u.oneCell' = true)
    (h63 : k + m ≤ maxLen) (hbytes : (k + m) * bytes ≤ 140737488355328) :
    ∃ v' w', (Builtin.append_ #[t, t] ty #[v, .slice (some ad) m c]).run Tryz.prog w = .ok v' w' ∧ w'.ownsRow 0 e sz v' (k + m) (xs ++ news) ∧ w.grownBy w' v.ownBlock ∧ Moved w v v' := by
  have fin : ∀ {B : Nat} {v' : Value} {w' : World}, w'.ownsRow B e sz v' (k + m) (xs ++ news) → w'.ownsRow 0 e sz v' (k + m) (xs ++ news) := by
    intro B v' w' h
    obtain ⟨h1, h2⟩ := h
    refine ⟨h1, ?_⟩
    rcases h2 with h2 | ⟨g, cap, cur, rfl, hg, r⟩
    · exact .inl h2
    · exact .inr ⟨g, cap, cur, rfl, by omega, r⟩
  rcases hown.2 with ⟨rfl, rfl⟩ | ⟨g, cap, cur, rfl, hg, hh, hnc, hcm, hcs, htake⟩
  · have hx : xs = [] := List.eq_nil_of_length_eq_zero (by simpa using hown.1)
    subst hx
    obtain ⟨v', w', hrun, r1, r2, _⟩ := run_append_own (P := Tryz.prog) w w.heap.size t ty e i0 z sz bytes ht hi hz hs1 hb1 hzs hpos (.slice none 0 0) 0 [] (World.ownsRow_nil _ _ _ _) ad m c news hn hm h1 (by simpa using h63) (by simpa using hbytes) (Nat.le_refl _)
    exact ⟨v', w', hrun, fin r1, r2, fun k hk => .inr (World.ownsRow.lt r1 k hk).1⟩
  · by_cases hroom : k + m ≤ cap
    · obtain ⟨w', hrun, r1, r2⟩ := run_append_fits (P := Tryz.prog) w 0 t ty e i0 sz ht hi hs1 g k cap xs hown ad m c news hn hm h1 hroom
      exact ⟨_, w', hrun, fin r1, r2, fun k hk => .inl hk⟩
    · obtain ⟨v', w', hrun, r1, r2⟩ := run_append_arg_grows (P := Tryz.prog) w t ty e i0 z sz bytes ht hi hz hs1 hb1 hzs hpos ⟨g, 0, none⟩ k cap xs hown.1 (fun j u hu => by
          have hj : j < xs.length := by
            rcases Nat.lt_or_ge j xs.length with h | h
            · exact h
            · rw [List.getElem?_eq_none h] at hu; simp at hu
          rw [add_plain, Nat.zero_add, World.ownsRow.cellAt hown j (by rw [← hown.1]; exact hj)]; exact hu) ad m c news hn hm (by omega) h63 hbytes
      exact ⟨v', w', hrun, fin r1, ⟨r2.os, r2.tape, r2.output, r2.size, fun k hk _ => r2.block k hk (by simp)⟩, fun k hk => .inr (World.ownsRow.lt r1 k hk).1⟩
theorem info38 : (Tryz.prog.info? 117).map (fun i => (i.zero, i.size, i.bytes)) = some (some (.agg #[.int .i64 0, .slice none 0 0]), 2, 32) := by kernel_rfl
theorem run_app2 (ty : TypeId) (w : World) (v : Value) (k : Nat) (xs : List Value) (hown : w.ownsRow 0 117 2 v k xs) (ad : Addr) (c : Nat) (x y : Value) (hx : w.cell? ad = some x) (hy : w.cell? (ad.add 1) = some y) (h1 : x.oneCell' = true) (h2 : y.oneCell' = true)
    (hk : k < 4398046511104) :
    ∃ v' w', (Builtin.append_ #[104, 104] ty #[v, .slice (some ad) 1 c]).run Tryz.prog w = .ok v' w' ∧ w'.ownsRow 0 117 2 v' (k + 1) (xs ++ [x, y]) ∧ w.grownBy w' v.ownBlock ∧ Moved w v v' := by
  obtain ⟨i0, hi, hz0, hz1, hz2⟩ := info_parts info38
  refine run_appN 104 ty 117 i0 _ 32 2 Tryz.underlying104 hi hz0 hz1 hz2 rfl (by decide) w v k xs hown ad 1 c [x, y] rfl (fun j u hj => ?_) (by simp [h1, h2]) (by unfold maxLen; omega) (by omega)
  match j, hj with
  | 0, hj => simp at hj; subst hj; simpa [Addr.add] using hx
  | 1, hj => simp at hj; subst hj; exact hy
  | j + 2, hj => simp at hj
theorem wpList_app2 {w : World} {ops : Array Oper} {rest : List Oper} {o : Oper} {a : Act} {Q : Exit → Act → World → Prop} (hgd : o.guard = none) (s t : Operand)
    (ho : o.op = .call { callee := .builtin .append, args := #[s, t], argTypes := #[104, 104] }) (v : Value) (k : Nat) (xs : List Value) (hs : a.eval s = v) (hown : w.ownsRow 0 117 2 v k xs)
    (ad : Addr) (c : Nat) (ht : a.eval t = .slice (some ad) 1 c) (x y : Value) (hx : w.cell? ad = some x) (hy : w.cell? (ad.add 1) = some y) (h1 : x.oneCell' = true) (h2 : y.oneCell' = true) (hk : k < 4398046511104)
    (h : ∀ v' w', w'.ownsRow 0 117 2 v' (k + 1) (xs ++ [x, y]) → w.grownBy w' v.ownBlock → Moved w v v' → wpList Tryz.prog ops Q rest (a.put o.dst v') w') : wpList Tryz.prog ops Q (o :: rest) a w := by
  obtain ⟨v', w', hrun, r1, r2, r3⟩ := run_app2 o.type w v k xs hown ad c x y hx hy h1 h2 hk
  refine wpList_plain hgd fun _ hK => ?_
  unfold Oper.wp
  simp [execOp, ho, resolve, invoke, builtin, hs, ht, hrun, Result.andThen]
  exact hK _ _ (h v' w' r1 r2 r3)
theorem gA {α : Type} {l : List α} {i : Nat} : l.toArray[i]? = l[i]? := List.getElem?_toArray
theorem g0 {α : Type} {a : α} {l : List α} : (a :: l)[0]? = some a := List.getElem?_cons_zero
theorem g1 {α : Type} {a : α} {l : List α} {i : Nat} : (a :: l)[i + 1]? = l[i]? := List.getElem?_cons_succ
theorem sA {α : Type} {l : List α} {i : Nat} {a : α} : l.toArray.setIfInBounds i a = (l.set i a).toArray := by simp
theorem s0 {α : Type} {x : α} {l : List α} {a : α} : (x :: l).set 0 a = a :: l := rfl
theorem s1 {α : Type} {x : α} {l : List α} {i : Nat} {a : α} : (x :: l).set (i + 1) a = x :: l.set i a := rfl
theorem tkA {P : Program} {ops : Array Oper} {Q : Exit → Act → World → Prop} {md : Region.Mode} {S : World → Prop} (i : Nat) {oi : Oper} {v : Value} {fuel : Nat} {listed : Array Bool} {a : Act} {w : World} (h1 : ops[i]? = some oi)
    (hb : (Region.noSelect ops && (Region.free md ops listed i && (Region.ready md ops listed).contains i)) = true) (hQ : ∀ (c : List PanicEntry) (a : Act) (w : World), Q (Exit.panic c) (a.put oi.dst v) w → Q (Exit.panic c) a w) (hy : YieldsIf P ops S oi v a) (hS : S w)
    (h : wpAnyH P md ops Q S fuel (listed.setIfInBounds i true) (a.put oi.dst v) w) : wpAnyH P md ops Q S (fuel + 1) listed a w := by
  rw [Bool.and_eq_true, Bool.and_eq_true] at hb
  exact wpAnyH_take h1 hb.1 hb.2.1 hb.2.2 hQ hy hS h
end Go.Proofs.YtkccpidgeecemaaGreatDoor
