/-
  Worlds that part in some blocks alone; lists in memory; owners of blocks.
-/
import Derived.Test.YtoifolmcdkfniabGreatDoorChecked
import Derived.WalkKit
import Derived.WalkMore
import Derived.OpenShut
import Derived.Laws.BitsAllLaws
import Derived.Deep.QuietTactic
import Derived.BigQuiet
import Derived.BigRegion
import Derived.WalkSmall
import Derived.Laws.Rows
import Derived.ProofKit
import Derived.ShutString
import Derived.ChangeOld
import Derived.Below
import Derived.SizedLaws
import Derived.Laws.AppendOwnNone
import Derived.Laws.OwnMore
import Derived.ArgAppend
import Derived.Lib.Hide
import Derived.Deep.RegionLaw
import Derived.Deep.RegionHeld3
import Derived.Deep.MidRow
namespace Go.Proofs.YtoifolmcdkfniabGreatDoor
open Go.ChangeShapes Go.WideShapes Go.ChangeAt Go.RowKit
set_option linter.unusedVariables false

theorem ret_int {k : IntKind} {a b : Int} (h : a = b) : Ending.returned (.int k a) = .returned (.int k b) := by rw [h]

/-! Worlds that part in the blocks S, and in new ones, alone. -/
structure Away (S : List Nat) (w w' : World) : Prop where
  os : w'.os = w.os
  tape : w'.tape = w.tape
  output : w'.output = w.output
  size : w.heap.size ≤ w'.heap.size
  block : ∀ k, k < w.heap.size → k ∉ S → w'.heap[k]? = w.heap[k]?
theorem Away.refl (S : List Nat) (w : World) : Away S w w := ⟨rfl, rfl, rfl, Nat.le_refl _, fun _ _ _ => rfl⟩
theorem Away.next {S T : List Nat} {a b c : World} (h : Away S a b) (k : Away T b c) (hT : ∀ x ∈ T, x ∈ S ∨ a.heap.size ≤ x) : Away S a c :=
  ⟨k.os.trans h.os, k.tape.trans h.tape, k.output.trans h.output, Nat.le_trans h.size k.size, fun i hi hn =>
    (k.block i (Nat.lt_of_lt_of_le hi h.size) (fun hm => by rcases hT i hm with h | h; exact hn h; omega)).trans (h.block i hi hn)⟩
theorem Away.mono {S T : List Nat} {a b : World} (h : Away S a b) (hT : ∀ x ∈ S, x ∈ T) : Away T a b := ⟨h.os, h.tape, h.output, h.size, fun i hi hn => h.block i hi (fun hm => hn (hT i hm))⟩
theorem Away.trans {S : List Nat} {a b c : World} (h : Away S a b) (k : Away S b c) : Away S a c := h.next k (fun _ hx => .inl hx)
theorem Away.drew {S : List Nat} {a w : World} (h : Away S a w) : Away S a w.drew := ⟨h.os, h.tape, h.output, h.size, h.block⟩
theorem Away.drewN {S : List Nat} {a w : World} (h : Away S a w) (n : Nat) : Away S a (w.drewN n) := ⟨h.os, h.tape, h.output, h.size, h.block⟩
theorem Away.alloc {S : List Nat} {a w : World} (h : Away S a w) (o : Obj) : Away S a (w.alloc o) :=
  ⟨h.os, h.tape, h.output, by simp; have := h.size; omega, fun i hi hn => (Below.heap_alloc _ _ _ (by have := h.size; omega)).trans (h.block i hi hn)⟩
theorem Away.setCell {S : List Nat} {a w : World} (h : Away S a w) {p : Addr} (hp : p.block ∈ S ∨ a.heap.size ≤ p.block) (u : Value) : Away S a (w.setCell p u) :=
  ⟨h.os, h.tape, h.output, by simpa using h.size, fun i hi hn => (Below.heap_setCell _ _ _ _ (fun e => by subst e; rcases hp with h | h; exact hn h; omega)).trans (h.block i hi hn)⟩
theorem Away.grown {S : List Nat} {a w w' : World} {row : Option Nat} (h : Away S a w) (hg : w.grownBy w' row) (hr : ∀ k, row = some k → k ∈ S ∨ a.heap.size ≤ k) : Away S a w' :=
  ⟨hg.os.trans h.os, hg.tape.trans h.tape, hg.output.trans h.output, Nat.le_trans h.size hg.size, fun i hi hn =>
    (hg.block i (Nat.lt_of_lt_of_le hi h.size) (fun e => by rcases hr i e.symm with h | h; exact hn h; omega)).trans (h.block i hi hn)⟩
theorem Away.below {S : List Nat} {C : Nat} {w0 w w' : World} (h : Away S w w') (hb : Below C w0 w) (hS : ∀ k ∈ S, C ≤ k) (hC : C ≤ w.heap.size) : Below C w0 w' :=
  ⟨h.os.trans hb.os, h.tape.trans hb.tape, h.output.trans hb.output, Nat.le_trans hb.size h.size, fun i hi => (h.block i (by omega) (fun hm => by have := hS i hm; omega)).trans (hb.block i hi)⟩
theorem Away.of_below {w w' : World} (h : Below w.heap.size w w') : Away [] w w' := ⟨h.os, h.tape, h.output, h.size, fun i hi _ => h.block i hi⟩
theorem Away.to_below {w w' : World} (h : Away [] w w') : Below w.heap.size w w' := ⟨h.os, h.tape, h.output, h.size, fun i hi => h.block i hi (by simp)⟩
theorem Away.cell {S : List Nat} {w w' : World} (h : Away S w w') {b o : Nat} (hb : b ∉ S) {v : Value} (hc : w.cell? ⟨b, o, none⟩ = some v) : w'.cell? ⟨b, o, none⟩ = some v :=
  (World.cell?_of_block (w := w) (a := ⟨b, o, none⟩) (h.block b (block_lt_of_cell hc) hb)).trans hc

/-! Blocks that are known whole. -/
theorem lt_of_block {w : World} {g : Nat} {o : Obj} (h : w.heap[g]? = some o) : g < w.heap.size := by
  rcases Nat.lt_or_ge g w.heap.size with h' | h'
  · exact h'
  · rw [Array.getElem?_eq_none h'] at h; simp at h
theorem cell_of_block {w : World} {g : Nat} {cs : Array Value} {t : TypeId} (h : w.heap[g]? = some (.cells cs t (0, 0))) (i : Nat) : w.cell? ⟨g, i, none⟩ = cs[i]? := by simp [World.cell?, h]
theorem free_of_block {w : World} {g : Nat} {cs : Array Value} {t : TypeId} (h : w.heap[g]? = some (.cells cs t (0, 0))) (i : Nat) : w.frozen? ⟨g, i, none⟩ = false := by simp [World.frozen?, h]
theorem block_set {w : World} {g : Nat} {cs : Array Value} {t : TypeId} (h : w.heap[g]? = some (.cells cs t (0, 0))) (i : Nat) (u : Value) :
    (w.setCell ⟨g, i, none⟩ u).heap[g]? = some (.cells (cs.setIfInBounds i u) t (0, 0)) := by simp [World.setCell, Array.getElem?_modify, h]
theorem block_set_other {w : World} {g h : Nat} (hg : g ≠ h) (i : Nat) (u : Value) : (w.setCell ⟨h, i, none⟩ u).heap[g]? = w.heap[g]? := Below.heap_setCell _ _ _ _ hg
theorem block_new (w : World) (o : Obj) : (w.alloc o).heap[w.heap.size]? = some o := heap_alloc_new w o
theorem Away.keep {S : List Nat} {w w' : World} (h : Away S w w') {g : Nat} (hg : g ∉ S) {o : Obj} (hb : w.heap[g]? = some o) : w'.heap[g]? = some o := (h.block g (lt_of_block hb) hg).trans hb

/-- Where a slice may lie behind a call. -/
def Moved (w : World) (v v' : Value) : Prop := ∀ k, v'.ownBlock = some k → v.ownBlock = some k ∨ w.heap.size ≤ k
theorem Moved.refl (w : World) (v : Value) : Moved w v v := fun k h => .inl h
/-- An append, at whatever element: where the new slice lies. -/
theorem run_appN (t ty e : TypeId) (i0 : TypeInfo) (z : Value) (bytes sz : Nat) (ht : Tryz.prog.underlying t = some (.slice e)) (hi : Tryz.prog.info? e = some i0) (hz : i0.zero = some z) (hs1 : i0.size = sz) (hb1 : i0.bytes = bytes) (hzs : z.cells.size = sz) (hpos : 0 < sz)
    (w : World) (v : Value) (k : Nat) (xs : List Value) (hown : w.ownsRow 0 e sz v k xs) (ad : Addr) (m c : Nat) (news : List Value) (hn : news.length = m * sz) (hm : ∀ j u, news[j]? = some u → w.cell? (ad.add j) = some u) (h1 : ∀ u ∈ news, u.oneCell' = true)
    (h63 : k + m ≤ maxLen) (hbytes : (k + m) * bytes ≤ 140737488355328) :
    ∃ v' w', (Builtin.append_ #[t, t] ty #[v, .slice (some ad) m c]).run Tryz.prog w = .ok v' w' ∧ w'.ownsRow 0 e sz v' (k + m) (xs ++ news) ∧ w.grownBy w' v.ownBlock ∧ Moved w v v' := by
  have fin : ∀ {B : Nat} {v' : Value} {w' : World}, w'.ownsRow B e sz v' (k + m) (xs ++ news) → w'.ownsRow 0 e sz v' (k + m) (xs ++ news) := by
    intro B v' w' h
    obtain ⟨h1, h2⟩ := h
    refine ⟨h1, ?_⟩
    rcases h2 with h2 | ⟨g, cap, cur, rfl, hg, r⟩
    · exact .inl h2
    · exact .inr ⟨g, cap, cur, rfl, by omega, r⟩
  rcases hown.2 with ⟨rfl, rfl⟩ | ⟨g, cap, cur, rfl, hg, hh, hnc, hcm, hcs, htake⟩
  · have hx : xs = [] := List.eq_nil_of_length_eq_zero (by simpa using hown.1)
    subst hx
    obtain ⟨v', w', hrun, r1, r2, _⟩ := run_append_own (P := Tryz.prog) w w.heap.size t ty e i0 z sz bytes ht hi hz hs1 hb1 hzs hpos (.slice none 0 0) 0 [] (World.ownsRow_nil _ _ _ _) ad m c news hn hm h1 (by simpa using h63) (by simpa using hbytes) (Nat.le_refl _)
    exact ⟨v', w', hrun, fin r1, r2, fun k hk => .inr (World.ownsRow.lt r1 k hk).1⟩
  · by_cases hroom : k + m ≤ cap
    · obtain ⟨w', hrun, r1, r2⟩ := run_append_fits (P := Tryz.prog) w 0 t ty e i0 sz ht hi hs1 g k cap xs hown ad m c news hn hm h1 hroom
      exact ⟨_, w', hrun, fin r1, r2, fun k hk => .inl hk⟩
    · obtain ⟨v', w', hrun, r1, r2⟩ := run_append_arg_grows (P := Tryz.prog) w t ty e i0 z sz bytes ht hi hz hs1 hb1 hzs hpos ⟨g, 0, none⟩ k cap xs hown.1 (fun j u hu => by
          have hj : j < xs.length := by
            rcases Nat.lt_or_ge j xs.length with h | h
            · exact h
            · rw [List.getElem?_eq_none h] at hu; simp at hu
          rw [add_plain, Nat.zero_add, World.ownsRow.cellAt hown j (by rw [← hown.1]; exact hj)]; exact hu) ad m c news hn hm (by omega) h63 hbytes
      exact ⟨v', w', hrun, fin r1, ⟨r2.os, r2.tape, r2.output, r2.size, fun k hk _ => r2.block k hk (by simp)⟩, fun k hk => .inr (World.ownsRow.lt r1 k hk).1⟩

def New (B : Nat) (v : Value) : Prop := ∀ k, v.ownBlock = some k → B ≤ k
theorem New.mono {B C : Nat} {v : Value} (h : New B v) (hc : C ≤ B) : New C v := fun k hk => Nat.le_trans hc (h k hk)
theorem New.moved {B : Nat} {w : World} {v v' : Value} (h : New B v) (hm : Moved w v v') (hB : B ≤ w.heap.size) : New B v' := fun k hk => by
  rcases hm k hk with h1 | h1
  · exact h k h1
  · omega
theorem New.nil (B : Nat) : New B (.slice none 0 0) := by simp [New, Value.ownBlock]
theorem add_block (a : Addr) (k : Nat) : (a.add k).block = a.block := by unfold Addr.add; split <;> rfl
theorem add_zero (a : Addr) : a.add 0 = a := by simp [Addr.add]

def I64 (n : Int) : Prop := -9223372036854775808 ≤ n ∧ n ≤ 9223372036854775807
theorem Away.step {S : List Nat} {a w w' : World} {v : Value} (h : Away S a w) (hgr : w.grownBy w' v.ownBlock) (hv : New a.heap.size v) : Away S a w' := h.grown hgr (fun k hk => .inr (hv k hk))
theorem Away.grow {w w' : World} {v : Value} (hg : w.grownBy w' v.ownBlock) : Away v.ownBlock.toList w w' := (Away.refl _ w).grown hg (fun k hk => .inl (by simp [hk]))

/-! Lists of any elements, as their cells. -/
def Lv (e sz : Nat) (w : World) (v : Value) (n : Nat) (xs : List Value) : Prop := w.ownsRow 0 e sz v n xs
theorem Lv.away {e sz : Nat} {S : List Nat} {w w' : World} {v : Value} {n : Nat} {xs : List Value} (h : Lv e sz w v n xs) (hw : Away S w w') (ha : ∀ k, v.ownBlock = some k → k ∉ S) : Lv e sz w' v n xs := by
  obtain ⟨h1, h2⟩ := h
  refine ⟨h1, ?_⟩
  rcases h2 with h2 | ⟨g, cap, cur, rfl, hg, hh, r⟩
  · exact .inl h2
  · exact .inr ⟨g, cap, cur, rfl, hg, hw.keep (ha g rfl) hh, r⟩
theorem Lv.nil (e sz : Nat) (w : World) : Lv e sz w (.slice none 0 0) 0 [] := World.ownsRow_nil _ _ _ _
theorem Lv.lt {e sz : Nat} {w : World} {v : Value} {n : Nat} {xs : List Value} (h : Lv e sz w v n xs) : ∀ k, v.ownBlock = some k → k < w.heap.size := fun k hk => (World.ownsRow.lt h k hk).2
theorem Lv.shp {e sz : Nat} {w : World} {v : Value} {n : Nat} {xs : List Value} (h : Lv e sz w v n xs) : (v = .slice none 0 0 ∧ n = 0) ∨ ∃ g cap, v = .slice (some ⟨g, 0, none⟩) n cap ∧ n ≤ cap := by
  rcases h.2 with ⟨rfl, h2⟩ | ⟨g, cap, cur, rfl, hg, hh, hn, -⟩
  · exact .inl ⟨rfl, by simpa using h2⟩
  · exact .inr ⟨g, cap, rfl, hn⟩
theorem Lv.at {e sz : Nat} {w : World} {g n cap : Nat} {xs : List Value} (h : Lv e sz w (.slice (some ⟨g, 0, none⟩) n cap) n xs) {i : Nat} {u : Value} (hi : i < n * sz) (hu : xs[i]? = some u) : w.cell? ⟨g, i, none⟩ = some u := by
  rw [World.ownsRow.cellAt h i (by simpa [h.1] using hi)]; exact hu

/-! Owners of blocks: what changes what. -/
/-- Only what k owns is changed. -/
def Chg (o : Nat → Nat) (k : Nat) (w w' : World) : Prop := ∃ S, Away S w w' ∧ ∀ s ∈ S, o s = k
/-- New blocks are k's. -/
def give (o : Nat → Nat) (w : World) (k : Nat) : Nat → Nat := fun b => if b < w.heap.size then o b else k
theorem give_old {o : Nat → Nat} {w : World} {k b : Nat} (h : b < w.heap.size) : give o w k b = o b := if_pos h
theorem give_new {o : Nat → Nat} {w : World} {k b : Nat} (h : w.heap.size ≤ b) : give o w k b = k := if_neg (by omega)
theorem Chg.refl (o : Nat → Nat) (k : Nat) (w : World) : Chg o k w w := ⟨[], Away.refl _ _, by simp⟩
theorem Chg.of {o : Nat → Nat} {k : Nat} {S : List Nat} {w w' : World} (h : Away S w w') (hS : ∀ s ∈ S, o s = k) : Chg o k w w' := ⟨S, h, hS⟩
theorem Chg.on {o : Nat → Nat} {w w' : World} (k : Nat) (h : Away [] w w') : Chg o k w w' := ⟨[], h, by simp⟩
/-- What came in, and all that was then, stands. -/
def Out (o : Nat → Nat) (W w : World) : Prop := Away [] W w ∧ ∀ b, b < W.heap.size → o b = 0
theorem Out.start (W : World) : Out (fun _ => 0) W W := ⟨Away.refl _ _, fun _ _ => rfl⟩
theorem Out.keep {o : Nat → Nat} {W w w' : World} {k : Nat} (h : Out o W w) (hc : Chg o k w w') (hk : 0 ≠ k) : Out (give o w k) W w' := by
  obtain ⟨S, ha, hS⟩ := hc
  refine ⟨h.1.next ha (fun x hx => ?_), fun b hb => ?_⟩
  · rcases Nat.lt_or_ge x W.heap.size with h1 | h1
    · have h2 := h.2 x h1
      have h3 := hS x hx
      omega
    · exact .inr h1
  · rw [give_old (Nat.lt_of_lt_of_le hb h.1.size)]; exact h.2 b hb
theorem Out.below {o : Nat → Nat} {W w : World} (h : Out o W w) : Below W.heap.size W w := h.1.to_below
/-- A block keeps what it holds, unless its owner is asked. -/
theorem Chg.keep {o : Nat → Nat} {k j g : Nat} {w w' : World} (hc : Chg o k w w') (hg : o g = j) (hj : j ≠ k) {x : Obj} (hb : w.heap[g]? = some x) : w'.heap[g]? = some x := by
  obtain ⟨S, ha, hS⟩ := hc
  exact ha.keep (fun hm => hj (by rw [← hg]; exact hS g hm)) hb
theorem Lv.keep {o : Nat → Nat} {k j e sz : Nat} {w w' : World} {v : Value} {n : Nat} {xs : List Value} (h : Lv e sz w v n xs) (ho : ∀ b, v.ownBlock = some b → o b = j) (hc : Chg o k w w') (hj : j ≠ k) : Lv e sz w' v n xs := by
  obtain ⟨S, ha, hS⟩ := hc
  exact h.away ha (fun b hb hm => hj (by rw [← ho b hb]; exact hS b hm))
theorem Away.setRow {S : List Nat} {a w : World} (h : Away S a w) {g : Nat} (hg : g ∈ S ∨ a.heap.size ≤ g) (c : Array Value) : Away S a (w.setRow g c) :=
  ⟨h.os, h.tape, h.output, by simpa [World.setRow] using h.size, fun i hi hn => by
    have : i ≠ g := fun e => by subst e; rcases hg with h | h; exact hn h; omega
    rw [← h.block i hi hn]
    simp [World.setRow, Array.getElem?_modify]
    intro e; exact absurd e.symm this⟩
theorem new_cells (w : World) (cs : Array Value) (t : TypeId) (j : Nat) : (w.alloc (.cells cs t)).cell? ((⟨w.heap.size, 0, none⟩ : Addr).add j) = cs[j]? := by
  rw [add_plain, Nat.zero_add, cell_of_block (block_new w _)]

end Go.Proofs.YtoifolmcdkfniabGreatDoor
