/-
  What every row's step shares: what came in.
-/
import Derived.Test.YtckiiidigajhpaaAlive
import Derived.Test.YtckiiidigajhpaaRows
import Derived.Deep.DeepHandedRow
import Derived.Deep.CondSized
import Derived.Deep.Slices
import Derived.ChangeOld
import Derived.Carry
namespace Go.Proofs.Ytckiiidigajhpaa
open Go.ChangeShapes Go.WideShapes Go.ChangeAt Go.RowKit Go.Deep
set_option linter.unusedVariables false
set_option maxRecDepth 100000

theorem ownKn : ownKnob Try.prog.godebug = none := by kernel_rfl
theorem laidOut : laidOutB Try.prog = true := by kernel_rfl
theorem cells29 : Try.prog.cellsOf 29 = 2 := by kernel_rfl
theorem cells3 : Try.prog.cellsOf 3 = 1 := by kernel_rfl
theorem pair_of {α : Type} {l : List α} (h : l.length = 2) : ∃ a b, l = [a, b] := by
  match l, h with
  | [a, b], _ => exact ⟨a, b, rfl⟩
theorem bulk_mem {H : Type} : ∀ {ds : List (DataW H)} {d : DataW H}, d ∈ ds → Rows.uptoBulk d ≤ Rows.uptoBulkAll ds
  | [], _, h => by simp at h
  | x :: r, d, h => by
    simp only [List.mem_cons] at h
    simp only [Rows.uptoBulkAll]
    rcases h with rfl | h
    · omega
    · have := bulk_mem h; omega
theorem small_mem {H : Type} {ds : List (DataW H)} {d : DataW H} (hk : Rows.uptoSmall H ds = true) (hm : d ∈ ds) : Rows.uptoBulk d ≤ 1048576 :=
  Nat.le_trans (bulk_mem hm) (of_decide_eq_true hk)
theorem bulkAll_ge {H : Type} (f : Nat → Nat) (D : Nat → DataW H) : ∀ l : List Nat, (∀ i ∈ l, f i ≤ Rows.uptoBulk (D i)) → (l.map f).sum ≤ Rows.uptoBulkAll (l.map D)
  | [], _ => by simp
  | i :: r, h => by
    have h1 := h i (by simp)
    have h2 := bulkAll_ge f D r (fun j hj => h j (List.mem_cons_of_mem _ hj))
    simp only [List.map_cons, List.sum_cons, Rows.uptoBulkAll]
    omega
theorem sum_ones (l : List Nat) : (l.map (fun _ => 1)).sum = l.length := by induction l <;> simp_all <;> omega
theorem open_span {H : Type} {enc : TypeId × Value → H} {w : World} {fuel : Nat} {c0 c1 : Value} {D : DataW H} {Pl : List MemPlace}
    (h : DataW.trod enc Try.prog w 0 (fun _ => true) true fuel 29 [c0, c1] = some (D, Pl)) :
    ∃ x : Sp, OkS x ∧ c0 = .int .i64 x.1 ∧ c1 = .int .i64 x.2 ∧ 1 ≤ Rows.uptoBulk D := by
  obtain ⟨xs, n, rfl, hx, hl, hxs, hf⟩ := DataW.trod_struct Try.underlying29 h
  obtain ⟨y0, y1, rfl⟩ := pair_of (by simpa using hxs)
  have k1 := cells3
  have h0 : DataW.trod enc Try.prog w 0 (fun _ => true) true n 3 (([c0, c1].drop 0).take (Try.prog.cellsOf 3)) = some y0 := hf 0 _ rfl
  rw [k1] at h0
  have h0 : DataW.trod enc Try.prog w 0 (fun _ => true) true n 3 [c0] = some y0 := h0
  have h4 : DataW.trod enc Try.prog w 0 (fun _ => true) true n 3 (([c0, c1].drop 1).take (Try.prog.cellsOf 3)) = some y1 := hf 1 _ rfl
  rw [k1] at h4
  have h4 : DataW.trod enc Try.prog w 0 (fun _ => true) true n 3 [c1] = some y1 := h4
  obtain ⟨m0, e0, rfl, w0⟩ := DataW.trod_int Try.underlying3 h0
  obtain ⟨m1, e1, rfl, w1⟩ := DataW.trod_int Try.underlying3 h4
  simp only [List.cons.injEq, and_true] at e0 e1
  subst e0; subst e1
  simp only [Prod.mk.injEq, List.map_cons, List.map_nil] at hx
  obtain ⟨rfl, _⟩ := hx
  exact ⟨(m0, m1), ⟨bounds_i64 w0, bounds_i64 w1⟩, rfl, rfl, by simp [Rows.uptoBulk]⟩
/-- Spans that came in. -/
theorem open_spans {H : Type} {enc : TypeId × Value → H} {w : World} {a : Option Addr} {len cap : Nat} {d : DataW H} {p : List MemPlace}
    (h : DataW.Trod enc Try.prog w 0 (fun _ => true) true 22 (.slice a len cap) d p) (hw : ∀ n ∈ d.weights Try.prog 22, n ≤ reachBytes) (hlt : ∀ x ∈ p, x.block < w.heap.size) :
    ∃ l : List Sp, l.length = len ∧ Sl w a cap l ∧ l.length ≤ Rows.uptoBulk d ∧ l.length ≤ 8796093021952 := by
  obtain ⟨fuel, hf⟩ := h
  have h : DataW.trod enc Try.prog w 0 (fun _ => true) true fuel 22 [.slice a len cap] = some (d, p) := by simpa [Value.cells] using hf
  rcases open_slice Try.underlying22 h with ⟨hcs, hx⟩ | ⟨x, l, c, m, n, D, Pl, hcs, hb, hl, hm, hmm, hx, hel⟩
  · simp only [List.cons.injEq, Value.slice.injEq, and_true] at hcs
    obtain ⟨rfl, rfl, rfl⟩ := hcs
    exact ⟨[], rfl, Sl.none _, by simp, by simp⟩
  · simp only [List.cons.injEq, Value.slice.injEq, and_true] at hcs
    obtain ⟨rfl, rfl, rfl⟩ := hcs
    simp only [Prod.mk.injEq] at hx
    obtain ⟨rfl, hpl⟩ := hx
    simp only [if_true] at hmm
    subst hmm
    rw [cells29] at hel
    have hreach : m * 16 ≤ 140737488351232 := by
      have := hw ((((List.range len).map D).length + ((List.range (m - len)).map fun j => D (len + j)).length) * Try.prog.bytesOf 29) (by simp [DataW.weights, Try.underlying22])
      rw [show Try.prog.bytesOf 29 = 16 from by kernel_rfl] at this
      simp only [List.length_map, List.length_range, reachBytes] at this
      omega
    obtain ⟨b, off, spot⟩ := x
    by_cases h0 : len = 0
    · subst h0
      exact ⟨[], rfl, ⟨Row.nil _ _, by simp, by simp⟩, by simp, by simp⟩
    have hspot : spot = none := by
      obtain ⟨cs', h1, _⟩ := hel 0 (by omega)
      obtain ⟨_, hlen', hc⟩ := World.cells?_some h1
      have := hc 0 (by decide)
      rw [List.getElem?_eq_getElem (by omega)] at this
      simpa [Addr.add] using World.cell?_spot this
    subst hspot
    have hall : ∀ i, i < len → ∃ x : Sp, OkS x ∧ (w.cell? ⟨b, off + i * 2, none⟩ = some (.int .i64 x.1) ∧ w.cell? ⟨b, off + i * 2 + 1, none⟩ = some (.int .i64 x.2)) ∧ 1 ≤ Rows.uptoBulk (D i) := by
      intro i hi
      obtain ⟨cs', h1, h2⟩ := hel i (by omega)
      rw [add_plain] at h1
      obtain ⟨_, hlen, hcell⟩ := World.cells?_some h1
      obtain ⟨c0, c1, rfl⟩ := pair_of hlen
      have q0 := hcell 0 (by decide)
      have q1 := hcell 1 (by decide)
      simp only [add_plain, List.getElem?_cons_zero, List.getElem?_cons_succ, Nat.add_zero] at q0 q1
      obtain ⟨x, hx, rfl, rfl, hb⟩ := open_span h2
      exact ⟨x, hx, ⟨q0, q1⟩, hb⟩
    obtain ⟨F, hF⟩ := choose_lt (α := Sp) hall
    refine ⟨(List.range len).map F, by simp, ⟨⟨by simp; omega, ?_, .inr ⟨b, off, rfl, ?_⟩⟩, by simp, by simpa using hl⟩, ?_, by simp; omega⟩
    · intro o ho
      obtain ⟨i, hi, rfl⟩ := List.mem_map.mp ho
      exact (hF i (by simpa using hi)).1
    · intro i o ho
      have hi : i < len := by
        rcases Nat.lt_or_ge i len with h | h
        · exact h
        · rw [List.getElem?_eq_none (by simpa using h)] at ho; simp at ho
      simp [hi] at ho
      subst ho
      exact (hF i hi).2.1
    · have := bulkAll_ge (fun i => 1) D (List.range len) (fun i hi => (hF i (by simpa using hi)).2.2)
      rw [sum_ones] at this
      simp only [List.length_range] at this
      simp only [Rows.uptoBulk, List.length_map, List.length_range]
      omega
theorem open_sp {H : Type} {enc : TypeId × Value → H} {W : World} {base : Nat} {x : Value} {d : DataW H} {pl : List MemPlace} (hv : Value.okWide Try.prog W .any base 29 x)
    (h : DataW.Trod enc Try.prog W 0 (fun _ => true) true 29 x d pl) : ∃ s : Sp, x = valS s ∧ OkS s := by
  obtain ⟨cs, rfl, hsz⟩ := okWide_struct Try.underlying29 hv
  rw [cells29] at hsz
  obtain ⟨fuel, hf⟩ := h
  simp only [Value.cells] at hf
  obtain ⟨c0, c1, hc⟩ := pair_of (l := cs.toList) (by simpa using hsz)
  rw [hc] at hf
  obtain ⟨s, hs, rfl, rfl, -⟩ := open_span hf
  refine ⟨s, ?_, hs⟩
  unfold valS
  congr 1
  apply Array.ext'
  rw [hc]
#print axioms open_spans
end Go.Proofs.Ytckiiidigajhpaa
