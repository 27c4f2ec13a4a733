/-
  What every row's step shares: what came in.
-/
import Derived.Test.YtdgkkbiodhbmeaaKnown
import Derived.Test.YtdgkkbiodhbmeaaRows
import Derived.Deep.DeepHandedRow
import Derived.Deep.CondSized
import Derived.Deep.Slices
import Derived.ChangeOld
import Derived.Carry
namespace Go.Proofs.Ytdgkkbiodhbmeaa
open Go.ChangeShapes Go.WideShapes Go.ChangeAt Go.RowKit Go.Deep
set_option linter.unusedVariables false
set_option maxRecDepth 100000

theorem ownKn : ownKnob Try.prog.godebug = none := by kernel_rfl
theorem laidOut : laidOutB Try.prog = true := by kernel_rfl
theorem one_of {α : Type} {l : List α} (h : l.length = 1) : ∃ a, l = [a] := by
  match l, h with
  | [a], _ => exact ⟨a, rfl⟩
theorem bulk_mem {H : Type} : ∀ {ds : List (DataW H)} {d : DataW H}, d ∈ ds → Rows.uptoBulk d ≤ Rows.uptoBulkAll ds
  | [], _, h => by simp at h
  | x :: r, d, h => by
    simp only [List.mem_cons] at h
    simp only [Rows.uptoBulkAll]
    rcases h with rfl | h
    · omega
    · have := bulk_mem h; omega
theorem small_mem {H : Type} {ds : List (DataW H)} {d : DataW H} (hk : Rows.uptoSmall H ds = true) (hm : d ∈ ds) : Rows.uptoBulk d ≤ 1048576 :=
  Nat.le_trans (bulk_mem hm) (of_decide_eq_true hk)
theorem bulkAll_ge {H : Type} (f : Nat → Nat) (D : Nat → DataW H) : ∀ l : List Nat, (∀ i ∈ l, f i ≤ Rows.uptoBulk (D i)) → (l.map f).sum ≤ Rows.uptoBulkAll (l.map D)
  | [], _ => by simp
  | i :: r, h => by
    have h1 := h i (by simp)
    have h2 := bulkAll_ge f D r (fun j hj => h j (List.mem_cons_of_mem _ hj))
    simp only [List.map_cons, List.sum_cons, Rows.uptoBulkAll]
    omega
theorem sum_ones (l : List Nat) : (l.map (fun _ => 1)).sum = l.length := by induction l <;> simp_all <;> omega
/-- A step of a script. -/
structure Op2 where
  p : Bool
  x : Int
def RowC (o : Nat → Nat) (w : World) (a : Option Addr) (l : List Op2) : Prop := (∀ x ∈ l, I64 x.x) ∧ (l = [] ∨ ∃ b off, a = some ⟨b, off, none⟩ ∧ o b = 0 ∧ ∀ i x, l[i]? = some x →
  w.cell? ⟨b, off + i * 2, none⟩ = some (.bool x.p) ∧ w.cell? ⟨b, off + i * 2 + 1, none⟩ = some (.int .i64 x.x))
theorem RowC.keep {o : Nat → Nat} {k : Nat} {w w' : World} {a : Option Addr} {l : List Op2} (h : RowC o w a l) (hc : Chg o k w w') (hk : 0 ≠ k) : RowC (give o w k) w' a l := by
  refine ⟨h.1, ?_⟩
  rcases h.2 with h1 | ⟨b, off, rfl, hb, h1⟩
  · exact .inl h1
  · obtain ⟨S, ha, hS⟩ := hc
    rcases l with _ | ⟨x, r⟩
    · exact .inl rfl
    · have h2 := block_lt_of_cell (h1 0 x rfl).1
      have hn : b ∉ S := fun hm => hk (by rw [← hb]; exact hS b hm)
      exact .inr ⟨b, off, rfl, by rw [give_old h2]; exact hb, fun i x hx => ⟨ha.cell hn (h1 i x hx).1, ha.cell hn (h1 i x hx).2⟩⟩
theorem RowC.at {o : Nat → Nat} {w : World} {a : Option Addr} {l : List Op2} (h : RowC o w a l) {k : Nat} {x : Op2} (hk : l[k]? = some x) : ∃ b off, a = some ⟨b, off, none⟩ ∧ w.cell? ⟨b, off + k * 2, none⟩ = some (.bool x.p) ∧ w.cell? ⟨b, off + k * 2 + 1, none⟩ = some (.int .i64 x.x) ∧ I64 x.x := by
  rcases h.2 with h0 | ⟨b, off, rfl, hb, hc⟩
  · rw [h0] at hk; simp at hk
  · exact ⟨b, off, rfl, (hc k x hk).1, (hc k x hk).2, h.1 x (List.mem_of_getElem? hk)⟩
theorem two_of {α : Type} {l : List α} (h : l.length = 2) : ∃ a b, l = [a, b] := by
  match l, h with
  | [a, b], _ => exact ⟨a, b, rfl⟩
theorem cells47 : Try.prog.cellsOf 47 = 2 := by kernel_rfl
theorem cells3 : Try.prog.cellsOf 3 = 1 := by kernel_rfl
theorem cells4 : Try.prog.cellsOf 4 = 1 := by kernel_rfl
theorem open_op {H : Type} {enc : TypeId × Value → H} {w : World} {fuel : Nat} {c0 c1 : Value} {D : DataW H} {Pl : List MemPlace}
    (h : DataW.trod enc Try.prog w 0 (fun _ => true) true fuel 47 [c0, c1] = some (D, Pl)) :
    ∃ x : Op2, I64 x.x ∧ c0 = .bool x.p ∧ c1 = .int .i64 x.x ∧ 1 ≤ Rows.uptoBulk D := by
  obtain ⟨xs, n, rfl, hx, hl, hxs, hf⟩ := DataW.trod_struct Try.underlying47 h
  obtain ⟨y0, y1, rfl⟩ := two_of (by simpa using hxs)
  have k1 := cells3
  have k2 := cells4
  have h0 : DataW.trod enc Try.prog w 0 (fun _ => true) true n 4 (([c0, c1].drop 0).take (Try.prog.cellsOf 4)) = some y0 := hf 0 _ rfl
  rw [k2] at h0
  have h0 : DataW.trod enc Try.prog w 0 (fun _ => true) true n 4 [c0] = some y0 := h0
  have h1 : DataW.trod enc Try.prog w 0 (fun _ => true) true n 3 (([c0, c1].drop 1).take (Try.prog.cellsOf 3)) = some y1 := hf 1 _ rfl
  rw [k1] at h1
  have h1 : DataW.trod enc Try.prog w 0 (fun _ => true) true n 3 [c1] = some y1 := h1
  obtain ⟨m0, e0, hd0⟩ := DataW.trod_bool Try.underlying4 h0
  obtain ⟨m1, e1, hd1, w1⟩ := DataW.trod_int Try.underlying3 h1
  simp only [List.cons.injEq, and_true] at e0 e1
  subst e0 e1
  simp only [Prod.mk.injEq] at hx
  obtain ⟨rfl, -⟩ := hx
  exact ⟨⟨m0, m1⟩, bounds_i64 w1, rfl, rfl, by simp [Rows.uptoBulk]⟩
theorem open_script {H : Type} {enc : TypeId × Value → H} {w : World} {a : Option Addr} {len cap : Nat} {d : DataW H} {p : List MemPlace}
    (h : DataW.Trod enc Try.prog w 0 (fun _ => true) true 39 (.slice a len cap) d p) (hw : ∀ n ∈ d.weights Try.prog 39, n ≤ reachBytes) (hlt : ∀ x ∈ p, x.block < w.heap.size) :
    ∃ l : List Op2, l.length = len ∧ RowC (fun _ => 0) w a l ∧ l.length ≤ Rows.uptoBulk d ∧ l.length ≤ 8796093021952 := by
  obtain ⟨fuel, hf⟩ := h
  have h : DataW.trod enc Try.prog w 0 (fun _ => true) true fuel 39 [.slice a len cap] = some (d, p) := by simpa [Value.cells] using hf
  rcases open_slice Try.underlying39 h with ⟨hcs, hx⟩ | ⟨x, l, c, m, n, D, Pl, hcs, hb, hl, hm, hmm, hx, hel⟩
  · simp only [List.cons.injEq, Value.slice.injEq, and_true] at hcs
    obtain ⟨rfl, rfl, rfl⟩ := hcs
    exact ⟨[], rfl, ⟨by simp, .inl rfl⟩, by simp, by simp⟩
  · simp only [List.cons.injEq, Value.slice.injEq, and_true] at hcs
    obtain ⟨rfl, rfl, rfl⟩ := hcs
    simp only [Prod.mk.injEq] at hx
    obtain ⟨rfl, hpl⟩ := hx
    simp only [if_true] at hmm
    subst hmm
    rw [cells47] at hel
    have hreach : m * 16 ≤ 140737488351232 := by
      have := hw ((((List.range len).map D).length + ((List.range (m - len)).map fun j => D (len + j)).length) * Try.prog.bytesOf 47) (by simp [DataW.weights, Try.underlying39])
      rw [show Try.prog.bytesOf 47 = 16 from by kernel_rfl] at this
      simp only [List.length_map, List.length_range, reachBytes] at this
      omega
    obtain ⟨b, off, spot⟩ := x
    by_cases h0 : len = 0
    · subst h0
      exact ⟨[], rfl, ⟨by simp, .inl rfl⟩, by simp, by simp⟩
    have hspot : spot = none := by
      obtain ⟨cs', h1, _⟩ := hel 0 (by omega)
      obtain ⟨_, hlen', hc⟩ := World.cells?_some h1
      have := hc 0 (by decide)
      rw [List.getElem?_eq_getElem (by omega)] at this
      simpa [Addr.add] using World.cell?_spot this
    subst hspot
    have hall : ∀ i, i < len → ∃ x : Op2, I64 x.x ∧ (w.cell? ⟨b, off + i * 2, none⟩ = some (.bool x.p) ∧ w.cell? ⟨b, off + i * 2 + 1, none⟩ = some (.int .i64 x.x)) ∧ 1 ≤ Rows.uptoBulk (D i) := by
      intro i hi
      obtain ⟨cs', h1, h2⟩ := hel i (by omega)
      rw [add_plain] at h1
      obtain ⟨_, hlen, hcell⟩ := World.cells?_some h1
      obtain ⟨c0, c1, rfl⟩ := two_of hlen
      have q0 := hcell 0 (by decide)
      have q1 := hcell 1 (by decide)
      simp only [add_plain, List.getElem?_cons_zero, List.getElem?_cons_succ, Nat.add_zero] at q0 q1
      obtain ⟨x, hx, rfl, rfl, hb⟩ := open_op h2
      exact ⟨x, hx, ⟨q0, q1⟩, hb⟩
    have hinh : Inhabited Op2 := ⟨⟨false, 0⟩⟩
    obtain ⟨F, hF⟩ := choose_lt (α := Op2) hall
    refine ⟨(List.range len).map F, by simp, ⟨?_, .inr ⟨b, off, rfl, rfl, ?_⟩⟩, ?_, by simp; omega⟩
    · intro o ho
      obtain ⟨i, hi, rfl⟩ := List.mem_map.mp ho
      exact (hF i (by simpa using hi)).1
    · intro i o ho
      have hi : i < len := by
        rcases Nat.lt_or_ge i len with h | h
        · exact h
        · rw [List.getElem?_eq_none (by simpa using h)] at ho; simp at ho
      simp [hi] at ho
      subst ho
      exact (hF i hi).2.1
    · have := bulkAll_ge (fun i => 1) D (List.range len) (fun i hi => (hF i (by simpa using hi)).2.2)
      rw [sum_ones] at this
      simp only [List.length_range] at this
      simp only [Rows.uptoBulk, List.length_map, List.length_range]
      omega
end Go.Proofs.Ytdgkkbiodhbmeaa
