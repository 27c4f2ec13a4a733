/-
  What every row's step shares: what came in.
-/
import Derived.Test.YtepbgigoekpdeaaAlive
import Derived.Test.YtepbgigoekpdeaaRows
import Derived.Deep.DeepHandedRow
import Derived.Deep.CondSized
import Derived.Deep.Slices
import Derived.ChangeOld
import Derived.Carry
namespace Go.Proofs.Ytepbgigoekpdeaa
open Go.ChangeShapes Go.WideShapes Go.ChangeAt Go.RowKit Go.Deep
set_option linter.unusedVariables false
set_option maxRecDepth 100000

theorem ownKn : ownKnob Try.prog.godebug = none := by kernel_rfl
theorem laidOut : laidOutB Try.prog = true := by kernel_rfl
theorem cells2 : Try.prog.cellsOf 2 = 1 := by kernel_rfl
theorem one_of {α : Type} {l : List α} (h : l.length = 1) : ∃ a, l = [a] := by
  match l, h with
  | [a], _ => exact ⟨a, rfl⟩
theorem bulk_mem {H : Type} : ∀ {ds : List (DataW H)} {d : DataW H}, d ∈ ds → Rows.uptoBulk d ≤ Rows.uptoBulkAll ds
  | [], _, h => by simp at h
  | x :: r, d, h => by
    simp only [List.mem_cons] at h
    simp only [Rows.uptoBulkAll]
    rcases h with rfl | h
    · omega
    · have := bulk_mem h; omega
theorem small_mem {H : Type} {ds : List (DataW H)} {d : DataW H} (hk : Rows.uptoSmall H ds = true) (hm : d ∈ ds) : Rows.uptoBulk d ≤ 1048576 :=
  Nat.le_trans (bulk_mem hm) (of_decide_eq_true hk)
theorem bulkAll_ge {H : Type} (f : Nat → Nat) (D : Nat → DataW H) : ∀ l : List Nat, (∀ i ∈ l, f i ≤ Rows.uptoBulk (D i)) → (l.map f).sum ≤ Rows.uptoBulkAll (l.map D)
  | [], _ => by simp
  | i :: r, h => by
    have h1 := h i (by simp)
    have h2 := bulkAll_ge f D r (fun j hj => h j (List.mem_cons_of_mem _ hj))
    simp only [List.map_cons, List.sum_cons, Rows.uptoBulkAll]
    omega
theorem sum_ones (l : List Nat) : (l.map (fun _ => 1)).sum = l.length := by induction l <;> simp_all <;> omega
/-- Numbers that can be read. -/
def RowI (w : World) (a : Option Addr) (l : List Int) : Prop := (∀ x ∈ l, I64 x) ∧ (l = [] ∨ ∃ b off, a = some ⟨b, off, none⟩ ∧ ∀ i x, l[i]? = some x → w.cell? ⟨b, off + i, none⟩ = some (.int .i64 x))
theorem RowI.on {w w' : World} {a : Option Addr} {l : List Int} (h : RowI w a l) (hw : Away [] w w') : RowI w' a l := by
  refine ⟨h.1, ?_⟩
  rcases h.2 with h1 | ⟨b, off, rfl, h1⟩
  · exact .inl h1
  · exact .inr ⟨b, off, rfl, fun i x hx => hw.cell (by simp) (h1 i x hx)⟩
theorem RowI.at {w : World} {a : Option Addr} {l : List Int} (h : RowI w a l) {k : Nat} {x : Int} (hk : l[k]? = some x) : ∃ b off, a = some ⟨b, off, none⟩ ∧ w.cell? ⟨b, off + k, none⟩ = some (.int .i64 x) ∧ I64 x := by
  rcases h.2 with h0 | ⟨b, off, rfl, hc⟩
  · rw [h0] at hk; simp at hk
  · exact ⟨b, off, rfl, hc k x hk, h.1 x (List.mem_of_getElem? hk)⟩
/-- Numbers that came in. -/
theorem open_nums {H : Type} {enc : TypeId × Value → H} {w : World} {a : Option Addr} {len cap : Nat} {d : DataW H} {p : List MemPlace}
    (h : DataW.Trod enc Try.prog w 0 (fun _ => true) true 33 (.slice a len cap) d p) (hw : ∀ n ∈ d.weights Try.prog 33, n ≤ reachBytes) (hlt : ∀ x ∈ p, x.block < w.heap.size) :
    ∃ l : List Int, l.length = len ∧ RowI w a l ∧ l.length ≤ Rows.uptoBulk d ∧ l.length ≤ 17592186043904 := by
  obtain ⟨fuel, hf⟩ := h
  have h : DataW.trod enc Try.prog w 0 (fun _ => true) true fuel 33 [.slice a len cap] = some (d, p) := by simpa [Value.cells] using hf
  rcases open_slice Try.underlying33 h with ⟨hcs, hx⟩ | ⟨x, l, c, m, n, D, Pl, hcs, hb, hl, hm, hmm, hx, hel⟩
  · simp only [List.cons.injEq, Value.slice.injEq, and_true] at hcs
    obtain ⟨rfl, rfl, rfl⟩ := hcs
    exact ⟨[], rfl, ⟨by simp, .inl rfl⟩, by simp, by simp⟩
  · simp only [List.cons.injEq, Value.slice.injEq, and_true] at hcs
    obtain ⟨rfl, rfl, rfl⟩ := hcs
    simp only [Prod.mk.injEq] at hx
    obtain ⟨rfl, hpl⟩ := hx
    simp only [if_true] at hmm
    subst hmm
    rw [cells2] at hel
    have hreach : m * 8 ≤ 140737488351232 := by
      have := hw ((((List.range len).map D).length + ((List.range (m - len)).map fun j => D (len + j)).length) * Try.prog.bytesOf 2) (by simp [DataW.weights, Try.underlying33])
      rw [show Try.prog.bytesOf 2 = 8 from by kernel_rfl] at this
      simp only [List.length_map, List.length_range, reachBytes] at this
      omega
    obtain ⟨b, off, spot⟩ := x
    by_cases h0 : len = 0
    · subst h0
      exact ⟨[], rfl, ⟨by simp, .inl rfl⟩, by simp, by simp⟩
    have hspot : spot = none := by
      obtain ⟨cs', h1, _⟩ := hel 0 (by omega)
      obtain ⟨_, hlen', hc⟩ := World.cells?_some h1
      have := hc 0 (by decide)
      rw [List.getElem?_eq_getElem (by omega)] at this
      simpa [Addr.add] using World.cell?_spot this
    subst hspot
    have hall : ∀ i, i < len → ∃ x : Int, I64 x ∧ w.cell? ⟨b, off + i, none⟩ = some (.int .i64 x) ∧ 1 ≤ Rows.uptoBulk (D i) := by
      intro i hi
      obtain ⟨cs', h1, h2⟩ := hel i (by omega)
      rw [add_plain] at h1
      obtain ⟨_, hlen, hcell⟩ := World.cells?_some h1
      obtain ⟨c0, rfl⟩ := one_of hlen
      have q0 := hcell 0 (by decide)
      simp only [add_plain, List.getElem?_cons_zero, Nat.add_zero, Nat.mul_one] at q0
      obtain ⟨m0, e0, hd, w0⟩ := DataW.trod_int Try.underlying2 h2
      simp only [List.cons.injEq, and_true] at e0
      subst e0
      refine ⟨m0, bounds_i64 w0, q0, ?_⟩
      simp only [Prod.mk.injEq] at hd
      rw [hd.1]
      simp [Rows.uptoBulk]
    obtain ⟨F, hF⟩ := choose_lt (α := Int) hall
    refine ⟨(List.range len).map F, by simp, ⟨?_, .inr ⟨b, off, rfl, ?_⟩⟩, ?_, by simp; omega⟩
    · intro o ho
      obtain ⟨i, hi, rfl⟩ := List.mem_map.mp ho
      exact (hF i (by simpa using hi)).1
    · intro i o ho
      have hi : i < len := by
        rcases Nat.lt_or_ge i len with h | h
        · exact h
        · rw [List.getElem?_eq_none (by simpa using h)] at ho; simp at ho
      simp [hi] at ho
      subst ho
      exact (hF i hi).2.1
    · have := bulkAll_ge (fun i => 1) D (List.range len) (fun i hi => (hF i (by simpa using hi)).2.2)
      rw [sum_ones] at this
      simp only [List.length_range] at this
      simp only [Rows.uptoBulk, List.length_map, List.length_range]
      omega
#print axioms open_nums
end Go.Proofs.Ytepbgigoekpdeaa
