/-
  What every row's step shares: the package variable, what came in, the witness.
-/
import Derived.Test.YtokhmlpajfhbpabDoorKnown
import Derived.Test.YtokhmlpajfhbpabDoorCards
import Derived.Test.YtokhmlpajfhbpabDoorTie
import Derived.Deep.DeepHandedRow
import Derived.Deep.Slices
import Derived.Lib.LaidTab
import Derived.LaidSub
import Derived.ChangeOld
import Derived.Carry
namespace Go.Proofs.YtokhmlpajfhbpabDoor
open Go.ChangeShapes Go.WideShapes Go.ChangeAt Go.RowKit Go.Deep
set_option linter.unusedVariables false
set_option maxRecDepth 100000

theorem ownKn : ownKnob Tryd.prog.godebug = none := by kernel_rfl
theorem laidOut : laidOutB Tryd.prog = true := by kernel_rfl
def laidAll : List (String × DataW Unit) := [("mosaic/opts.shapes", Rows.laid_mosaic_opts_shapes)]
theorem glob_of {W : World} (hL : laidMet Tryd.prog laidAll W) : Glob W := by
  have t : Lib.TabIs Tryd.prog W "mosaic/opts.shapes" .i64 [0, 1, 2] := Lib.tabIs_of_head (rest := []) (g := 0) (t := 40) (n := 3) (by kernel_rfl) (by kernel_rfl) Tryd.underlying40 Tryd.underlying3 (by kernel_rfl) (by kernel_rfl) hL
  exact ⟨t.cell (by kernel_rfl) 0 (by decide), t.cell (by kernel_rfl) 1 (by decide), t.cell (by kernel_rfl) 2 (by decide)⟩
def setCs (cs : Array Value) : Obj → Obj
  | .cells _ t fr => .cells cs t fr
  | o => o
def laidWorld (P : Program) (os : Os) : World :=
  { World.holding P os ⟨#[], #[], []⟩ with heap := (World.holding P os ⟨#[], #[], []⟩).heap.modify 0 (setCs #[.int .i64 0, .int .i64 1, .int .i64 2]) }

def kindBytes : IntKind → Nat
  | .u8 => 1
  | .u16 => 2
  | _ => 8

/-- A slice of integers that came in: nil, or a row of 'cap' cells. -/
def IsRow (k : IntKind) (w : World) (a : Option Addr) (len cap : Nat) (zs : List Int) : Prop :=
  (a = none ∧ len = 0 ∧ cap = 0 ∧ zs = []) ∨
  ∃ x, a = some x ∧ len ≤ cap ∧ cap * kindBytes k ≤ 140737488351232 ∧ zs.length = cap ∧ (∀ i, i < zs.length → w.cell? (x.add i) = some (.int k (zs.getD i 0))) ∧ ∀ n ∈ zs, (Lit.int k n).wf = true

/-- Of bytes: their list. -/
theorem view {w : World} {a : Option Addr} {len cap : Nat} {zs : List Int} (h : IsRow .u8 w a len cap zs) :
    ∃ l : List Int, l.length = len ∧ len ≤ cap ∧ cap ≤ 140737488351232 ∧ Row w a l ∧ (a = none → cap = 0) := by
  rcases h with ⟨rfl, rfl, rfl, rfl⟩ | ⟨x, rfl, hl, hm, hz, hcell, hwz⟩
  · exact ⟨[], rfl, Nat.le_refl _, by omega, Row.nil _ _, fun _ => rfl⟩
  · simp only [kindBytes] at hm
    refine ⟨zs.take len, by simp; omega, hl, by omega, ⟨by simp; omega, fun n hn => bounds_u8 (hwz n (List.mem_of_mem_take hn)), ?_⟩, by simp⟩
    by_cases h0 : len = 0
    · left; subst h0; simp
    · right
      obtain ⟨b, off, spot⟩ := x
      have hspot : spot = none := by simpa [Addr.add] using World.cell?_spot (hcell 0 (by omega))
      subst hspot
      refine ⟨b, off, rfl, fun i hi => ?_⟩
      have hi' : i < len := by simp at hi; omega
      have := hcell i (by omega)
      rw [add_plain] at this
      rw [List.getElem?_take, if_pos hi']
      simpa using this

theorem cells38 : Tryd.prog.cellsOf 34 = 2 := by kernel_rfl
theorem cellsOne : Tryd.prog.cellsOf 3 = 1 ∧ Tryd.prog.cellsOf 22 = 1 ∧ Tryd.prog.cellsOf 5 = 1 := ⟨by kernel_rfl, by kernel_rfl, by kernel_rfl⟩
theorem pair_of {α : Type} {l : List α} (h : l.length = 2) : ∃ a b, l = [a, b] := by
  match l, h with
  | [a, b], _ => exact ⟨a, b, rfl⟩
theorem bulkAll_ge {H : Type} (f : Nat → Nat) (D : Nat → DataW H) : ∀ l : List Nat, (∀ i ∈ l, f i ≤ Rows.uptoBulk (D i)) → (l.map f).sum ≤ Rows.uptoBulkAll (l.map D)
  | [], _ => by simp
  | i :: r, h => by
    have h1 := h i (by simp)
    have h2 := bulkAll_ge f D r (fun j hj => h j (List.mem_cons_of_mem _ hj))
    simp only [List.map_cons, List.sum_cons, Rows.uptoBulkAll]
    omega
theorem bulkAll_lits {H : Type} (k : IntKind) : ∀ l : List Int, l.length ≤ Rows.uptoBulkAll (lits (H := H) k l)
  | [] => by simp
  | x :: r => by
    have h := bulkAll_lits (H := H) k r
    simp only [lits, List.map_cons, Rows.uptoBulkAll, List.length_cons, Rows.uptoBulk] at h ⊢
    omega
theorem weightsAll_mem {H : Type} (e : TypeId) : ∀ (l : List (DataW H)) (d : DataW H), d ∈ l → ∀ n ∈ d.weights Tryd.prog e, n ∈ DataW.weightsAll Tryd.prog e l
  | [], _, h, _, _ => by simp at h
  | x :: r, d, h, n, hn => by
    simp only [DataW.weightsAll, List.mem_append]
    rcases List.mem_cons.mp h with rfl | h
    · exact .inl hn
    · exact .inr (weightsAll_mem e r d h n hn)


theorem bulk_mem {H : Type} : ∀ {ds : List (DataW H)} {d : DataW H}, d ∈ ds → Rows.uptoBulk d ≤ Rows.uptoBulkAll ds
  | [], _, h => by simp at h
  | x :: r, d, h => by
    simp only [List.mem_cons] at h
    simp only [Rows.uptoBulkAll]
    rcases h with rfl | h
    · omega
    · have := bulk_mem h; omega
theorem small_mem {H : Type} {ds : List (DataW H)} {d : DataW H} (hk : Rows.uptoSmall H ds = true) (hm : d ∈ ds) : Rows.uptoBulk d ≤ 1048576 :=
  Nat.le_trans (bulk_mem hm) (of_decide_eq_true hk)
/-- Bytes that came in. -/
theorem open_cell {H : Type} {enc : TypeId × Value → H} {w : World} {fuel : Nat} {c : Value} {D : DataW H} {Pl : List MemPlace}
    (h : DataW.trod enc Tryd.prog w 0 (fun _ => true) true fuel 22 [c] = some (D, Pl)) (hw : ∀ n ∈ D.weights Tryd.prog 22, n ≤ reachBytes) :
    ∃ (a : Option Addr) (L : List Int) (cap : Nat), c = .slice a L.length cap ∧ L.length ≤ cap ∧ cap ≤ 140737488351232 ∧ Row w a L ∧ (a = none → cap = 0) ∧ L.length + 1 ≤ Rows.uptoBulk D := by
  obtain ⟨k1, k3, k4⟩ := cellsOne
  rcases open_ints Tryd.underlying22 Tryd.underlying5 k4 h with ⟨hcs, hx⟩ | ⟨x, l, c', zs, hcs, _, hll, hm, hz, hx, hcz, hwz⟩
  · have hcs : c = _ := (List.cons.inj hcs).1
    have hD : D = _ := congrArg Prod.fst hx
    subst hcs; subst hD
    exact ⟨none, [], 0, rfl, Nat.le_refl _, by omega, Row.nil _ _, fun _ => rfl, by simp [Rows.uptoBulk]⟩
  · have hcs : c = _ := (List.cons.inj hcs).1
    have hD : D = _ := congrArg Prod.fst hx
    subst hcs; subst hD
    rw [if_pos rfl] at hz
    have hreach : c' ≤ 140737488351232 := by
      have := hw ((zs.take l).length + (zs.drop l).length) (by
        simp only [DataW.weights, Tryd.underlying22]
        simp [lits, show Tryd.prog.bytesOf 5 = 1 from by kernel_rfl])
      simp only [List.length_take, List.length_drop, reachBytes] at this
      omega
    have hrow : IsRow .u8 w (some x) l c' zs := .inr ⟨x, rfl, hll, by simp only [kindBytes]; omega, hz, hcz, hwz⟩
    obtain ⟨L, hL, hLc, _, hr, hn⟩ := view hrow
    subst hL
    refine ⟨some x, L, c', rfl, hLc, hreach, hr, hn, ?_⟩
    have hb := bulkAll_lits (H := H) .u8 (zs.take L.length)
    simp only [List.length_take] at hb
    simp [Rows.uptoBulk]
    omega
theorem open_bytes {H : Type} {enc : TypeId × Value → H} {w : World} {a : Option Addr} {len cap : Nat} {d : DataW H} {p : List MemPlace}
    (h : DataW.Trod enc Tryd.prog w 0 (fun _ => true) true 22 (.slice a len cap) d p) (hw : ∀ n ∈ d.weights Tryd.prog 22, n ≤ reachBytes) :
    ∃ L : List Int, L.length = len ∧ len ≤ cap ∧ cap ≤ 140737488351232 ∧ Row w a L ∧ (a = none → cap = 0) ∧ L.length ≤ Rows.uptoBulk d := by
  obtain ⟨fuel, hf⟩ := h
  obtain ⟨a', L, cap', e, h1, h2, h3, h4, h5⟩ := open_cell (c := .slice a len cap) (by simpa [Value.cells] using hf) hw
  simp only [Value.slice.injEq] at e
  obtain ⟨rfl, rfl, rfl⟩ := e
  exact ⟨L, rfl, h1, h2, h3, h4, by omega⟩
def Cells2 (w : World) (b off : Nat) (x : V) : Prop := w.cell? ⟨b, off, none⟩ = some (.int .i64 x.kd) ∧ w.cell? ⟨b, off + 1, none⟩ = some x.sl
theorem open_opt {H : Type} {enc : TypeId × Value → H} {w : World} {fuel : Nat} {b off : Nat} {cs : List Value} {D : DataW H} {Pl : List MemPlace}
    (hc : w.cells? 0 ⟨b, off, none⟩ 2 = some cs) (h : DataW.trod enc Tryd.prog w 0 (fun _ => true) true fuel 34 cs = some (D, Pl)) (hw : ∀ n ∈ D.weights Tryd.prog 34, n ≤ reachBytes) :
    ∃ x : V, x.ok w ∧ Cells2 w b off x ∧ x.b.length + 1 ≤ Rows.uptoBulk D := by
  obtain ⟨_, hlen, hcell⟩ := World.cells?_some hc
  obtain ⟨c0, c4, rfl⟩ := pair_of hlen
  obtain ⟨xs, n, rfl, hx, hl, hxs, hf⟩ := DataW.trod_struct Tryd.underlying34 h
  obtain ⟨y0, y4, rfl⟩ := pair_of (by simpa using hxs)
  obtain ⟨k1, k3, k4⟩ := cellsOne
  have h0 : DataW.trod enc Tryd.prog w 0 (fun _ => true) true n 3 (([c0, c4].drop 0).take (Tryd.prog.cellsOf 3)) = some y0 := hf 0 _ rfl
  rw [k1] at h0
  have h0 : DataW.trod enc Tryd.prog w 0 (fun _ => true) true n 3 [c0] = some y0 := h0
  have h4 : DataW.trod enc Tryd.prog w 0 (fun _ => true) true n 22 (([c0, c4].drop 1).take (Tryd.prog.cellsOf 22)) = some y4 := hf 1 _ rfl
  rw [k3] at h4
  have h4 : DataW.trod enc Tryd.prog w 0 (fun _ => true) true n 22 [c4] = some y4 := h4
  obtain ⟨m0, e0, rfl, w0⟩ := DataW.trod_int Tryd.underlying3 h0
  simp only [List.cons.injEq, and_true] at e0
  subst e0
  have q0 := hcell 0 (by decide)
  have q4 := hcell 1 (by decide)
  simp only [add_plain, List.getElem?_cons_zero, List.getElem?_cons_succ, Nat.add_zero] at q0 q4
  have i0 : I64 m0 := bounds_i64 w0
  simp only [Prod.mk.injEq, List.map_cons, List.map_nil] at hx
  obtain ⟨rfl, _⟩ := hx
  obtain ⟨D4, P4⟩ := y4
  obtain ⟨a, L, cap, rfl, g1, g2, g3, g4, g5⟩ := open_cell h4 (fun k hk => hw k (by
    simp only [DataW.weights, Tryd.underlying34]
    simp [DataW.weightsEach, hk]))
  refine ⟨⟨m0, a, cap, L⟩, ⟨i0, g3, g4, g1⟩, ⟨q0, q4⟩, ?_⟩
  simp [Rows.uptoBulk, Rows.uptoBulkAll]
  omega
/-- Options that came in. -/
theorem open_opts {H : Type} {enc : TypeId × Value → H} {w : World} {a : Option Addr} {len cap : Nat} {d : DataW H} {p : List MemPlace}
    (h : DataW.Trod enc Tryd.prog w 0 (fun _ => true) true 23 (.slice a len cap) d p) (hw : ∀ n ∈ d.weights Tryd.prog 23, n ≤ reachBytes) :
    ∃ xs : List V, xs.length = len ∧ len ≤ cap ∧ Opts w a xs ∧ (xs.map (fun x => x.b.length + 1)).sum ≤ Rows.uptoBulk d := by
  obtain ⟨fuel, hf⟩ := h
  have h : DataW.trod enc Tryd.prog w 0 (fun _ => true) true fuel 23 [.slice a len cap] = some (d, p) := by simpa [Value.cells] using hf
  rcases open_slice Tryd.underlying23 h with ⟨hcs, hx⟩ | ⟨x, l, c, m, n, D, Pl, hcs, hb, hl, hm, hmm, hx, hel⟩
  · simp only [List.cons.injEq, Value.slice.injEq, and_true] at hcs
    obtain ⟨rfl, rfl, rfl⟩ := hcs
    exact ⟨[], rfl, Nat.le_refl _, Opts.nil _ _, by simp⟩
  · simp only [List.cons.injEq, Value.slice.injEq, and_true] at hcs
    obtain ⟨rfl, rfl, rfl⟩ := hcs
    simp only [Prod.mk.injEq] at hx
    obtain ⟨rfl, _⟩ := hx
    simp only [if_true] at hmm
    subst hmm
    rw [cells38] at hel
    have hreach : m * 32 ≤ 140737488351232 := by
      have := hw ((((List.range len).map D).length + ((List.range (m - len)).map fun j => D (len + j)).length) * Tryd.prog.bytesOf 34) (by simp [DataW.weights, Tryd.underlying23])
      rw [show Tryd.prog.bytesOf 34 = 32 from by kernel_rfl] at this
      simp only [List.length_map, List.length_range, reachBytes] at this
      omega
    by_cases h0 : len = 0
    · subst h0
      exact ⟨[], rfl, hl, Opts.nil _ _, by simp⟩
    obtain ⟨b, off, spot⟩ := x
    have hspot : spot = none := by
      obtain ⟨cs', h1, _⟩ := hel 0 (by omega)
      obtain ⟨_, hlen', hc⟩ := World.cells?_some h1
      have := hc 0 (by decide)
      rw [List.getElem?_eq_getElem (by omega)] at this
      simpa [Addr.add] using World.cell?_spot this
    subst hspot
    have hall : ∀ i, i < len → ∃ x : V, x.ok w ∧ Cells2 w b (off + i * 2) x ∧ x.b.length + 1 ≤ Rows.uptoBulk (D i) := by
      intro i hi
      obtain ⟨cs', h1, h2⟩ := hel i (by omega)
      rw [add_plain] at h1
      exact open_opt h1 h2 (fun k hk => hw k (by
        simp only [DataW.weights, Tryd.underlying23, List.mem_cons, List.mem_append]
        exact .inr (.inl (weightsAll_mem 34 _ (D i) (by simp; exact ⟨i, hi, rfl⟩) k hk))))
    have hinh : Inhabited V := ⟨⟨0, none, 0, []⟩⟩
    obtain ⟨F, hF⟩ := choose_lt (α := V) hall
    refine ⟨(List.range len).map F, by simp, hl, ⟨by simp; omega, ?_, .inr ⟨b, off, rfl, ?_⟩⟩, ?_⟩
    · intro o ho
      obtain ⟨i, hi, rfl⟩ := List.mem_map.mp ho
      exact (hF i (by simpa using hi)).1
    · intro i o ho
      have hi : i < len := by
        rcases Nat.lt_or_ge i len with h | h
        · exact h
        · rw [List.getElem?_eq_none (by simpa using h)] at ho; simp at ho
      simp [hi] at ho
      subst ho
      exact (hF i hi).2.1
    · have := bulkAll_ge (fun i => (F i).b.length + 1) D (List.range len) (fun i hi => (hF i (by simpa using hi)).2.2)
      rw [List.map_map]
      simp only [Rows.uptoBulk]
      exact Nat.le_trans this (by omega)
#print axioms open_opts
end Go.Proofs.YtokhmlpajfhbpabDoor
