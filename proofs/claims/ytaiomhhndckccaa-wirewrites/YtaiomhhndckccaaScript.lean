/-
  A script that came in: its calls, one by one.
-/
import Derived.Test.YtaiomhhndckccaaKit
import Derived.Deep.Slices
namespace Go.Proofs.Ytaiomhhndckccaa
open Go.ChangeShapes Go.WideShapes Go.ChangeAt Go.RowKit Go.Deep
set_option linter.unusedVariables false

/-- One call, as it lies in memory. -/
structure OpD where
  kd : Int
  who : Int
  n : Int
  v : Int
  ba : Option Addr
  bc : Nat
  b : List Int
def I64 (n : Int) : Prop := -9223372036854775808 ≤ n ∧ n ≤ 9223372036854775807
def OpD.ok (w : World) (o : OpD) : Prop :=
  I64 o.kd ∧ I64 o.who ∧ I64 o.n ∧ (0 ≤ o.v ∧ o.v ≤ 4294967295) ∧ Row w o.ba o.b ∧ (o.ba = none → o.bc = 0) ∧ o.b.length ≤ o.bc ∧ o.bc ≤ 140737488351232
theorem OpD.ok.away {S : List Nat} {w w' : World} {o : OpD} (h : o.ok w) (hw : Away [] w w') : o.ok w' := by
  obtain ⟨h1, h2, h3, h4, h5, h6⟩ := h
  exact ⟨h1, h2, h3, h4, h5.away hw (by simp), h6⟩
/-- The value of a call. -/
def OpD.val (o : OpD) : Value := .agg #[.int .i64 o.kd, .int .i64 o.who, .int .i64 o.n, .int .u32 o.v, .slice o.ba o.b.length o.bc]
def Cells5 (w : World) (b off : Nat) (o : OpD) : Prop :=
  w.cell? ⟨b, off, none⟩ = some (.int .i64 o.kd) ∧ w.cell? ⟨b, off + 1, none⟩ = some (.int .i64 o.who) ∧ w.cell? ⟨b, off + 2, none⟩ = some (.int .i64 o.n) ∧ w.cell? ⟨b, off + 3, none⟩ = some (.int .u32 o.v) ∧ w.cell? ⟨b, off + 4, none⟩ = some (.slice o.ba o.b.length o.bc)
def Script (w : World) (a : Option Addr) (ops : List OpD) : Prop :=
  ops.length ≤ 140737488351232 ∧ (∀ o ∈ ops, o.ok w) ∧ (ops = [] ∨ ∃ b off, a = some ⟨b, off, none⟩ ∧ ∀ i o, ops[i]? = some o → Cells5 w b (off + i * 5) o)

theorem cells55 : Try.prog.cellsOf 55 = 5 := by kernel_rfl
theorem cellsOne : Try.prog.cellsOf 3 = 1 ∧ Try.prog.cellsOf 30 = 1 ∧ Try.prog.cellsOf 22 = 1 ∧ Try.prog.cellsOf 5 = 1 := ⟨by kernel_rfl, by kernel_rfl, by kernel_rfl, by kernel_rfl⟩
theorem five_of {α : Type} {l : List α} (h : l.length = 5) : ∃ a b c d e, l = [a, b, c, d, e] := by
  match l, h with
  | [a, b, c, d, e], _ => exact ⟨a, b, c, d, e, rfl⟩
theorem bulkAll_ge {H : Type} (f : Nat → Nat) (D : Nat → DataW H) : ∀ l : List Nat, (∀ i ∈ l, f i ≤ Rows.uptoBulk (D i)) → (l.map f).sum ≤ Rows.uptoBulkAll (l.map D)
  | [], _ => by simp
  | i :: r, h => by
    have h1 := h i (by simp)
    have h2 := bulkAll_ge f D r (fun j hj => h j (List.mem_cons_of_mem _ hj))
    simp only [List.map_cons, List.sum_cons, Rows.uptoBulkAll]
    omega
theorem bulkAll_lits {H : Type} (k : IntKind) : ∀ l : List Int, l.length ≤ Rows.uptoBulkAll (lits (H := H) k l)
  | [] => by simp
  | x :: r => by
    have h := bulkAll_lits (H := H) k r
    simp only [lits, List.map_cons, Rows.uptoBulkAll, List.length_cons, Rows.uptoBulk] at h ⊢
    omega
theorem weightsAll_mem {H : Type} (e : TypeId) : ∀ (l : List (DataW H)) (d : DataW H), d ∈ l → ∀ n ∈ d.weights Try.prog e, n ∈ DataW.weightsAll Try.prog e l
  | [], _, h, _, _ => by simp at h
  | x :: r, d, h, n, hn => by
    simp only [DataW.weightsAll, List.mem_append]
    rcases List.mem_cons.mp h with rfl | h
    · exact .inl hn
    · exact .inr (weightsAll_mem e r d h n hn)

theorem open_op {H : Type} {enc : TypeId × Value → H} {w : World} {fuel : Nat} {b off : Nat} {cs : List Value} {D : DataW H} {Pl : List MemPlace}
    (hc : w.cells? 0 ⟨b, off, none⟩ 5 = some cs) (h : DataW.trod enc Try.prog w 0 (fun _ => true) true fuel 55 cs = some (D, Pl)) (hw : ∀ n ∈ D.weights Try.prog 55, n ≤ reachBytes) :
    ∃ o : OpD, o.ok w ∧ Cells5 w b off o ∧ o.b.length + 4 ≤ Rows.uptoBulk D := by
  obtain ⟨_, hlen, hcell⟩ := World.cells?_some hc
  obtain ⟨c0, c1, c2, c3, c4, rfl⟩ := five_of hlen
  obtain ⟨xs, n, rfl, hx, hl, hxs, hf⟩ := DataW.trod_struct Try.underlying55 h
  obtain ⟨y0, y1, y2, y3, y4, rfl⟩ := five_of (by simpa using hxs)
  obtain ⟨k1, k2, k3, k4⟩ := cellsOne
  have h0 : DataW.trod enc Try.prog w 0 (fun _ => true) true n 3 (([c0, c1, c2, c3, c4].drop 0).take (Try.prog.cellsOf 3)) = some y0 := hf 0 _ rfl
  rw [k1] at h0
  have h0 : DataW.trod enc Try.prog w 0 (fun _ => true) true n 3 [c0] = some y0 := h0
  have h1 : DataW.trod enc Try.prog w 0 (fun _ => true) true n 3 (([c0, c1, c2, c3, c4].drop 1).take (Try.prog.cellsOf 3)) = some y1 := hf 1 _ rfl
  rw [k1] at h1
  have h1 : DataW.trod enc Try.prog w 0 (fun _ => true) true n 3 [c1] = some y1 := h1
  have h2 : DataW.trod enc Try.prog w 0 (fun _ => true) true n 3 (([c0, c1, c2, c3, c4].drop 2).take (Try.prog.cellsOf 3)) = some y2 := hf 2 _ rfl
  rw [k1] at h2
  have h2 : DataW.trod enc Try.prog w 0 (fun _ => true) true n 3 [c2] = some y2 := h2
  have h3 : DataW.trod enc Try.prog w 0 (fun _ => true) true n 30 (([c0, c1, c2, c3, c4].drop 3).take (Try.prog.cellsOf 30)) = some y3 := hf 3 _ rfl
  rw [k2] at h3
  have h3 : DataW.trod enc Try.prog w 0 (fun _ => true) true n 30 [c3] = some y3 := h3
  have h4 : DataW.trod enc Try.prog w 0 (fun _ => true) true n 22 (([c0, c1, c2, c3, c4].drop 4).take (Try.prog.cellsOf 22)) = some y4 := hf 4 _ rfl
  rw [k3] at h4
  have h4 : DataW.trod enc Try.prog w 0 (fun _ => true) true n 22 [c4] = some y4 := h4
  obtain ⟨m0, e0, rfl, w0⟩ := DataW.trod_int Try.underlying3 h0
  obtain ⟨m1, e1, rfl, w1⟩ := DataW.trod_int Try.underlying3 h1
  obtain ⟨m2, e2, rfl, w2⟩ := DataW.trod_int Try.underlying3 h2
  obtain ⟨m3, e3, rfl, w3⟩ := DataW.trod_int Try.underlying30 h3
  simp only [List.cons.injEq, and_true] at e0 e1 e2 e3
  subst e0 e1 e2 e3
  have q0 := hcell 0 (by decide)
  have q1 := hcell 1 (by decide)
  have q2 := hcell 2 (by decide)
  have q3 := hcell 3 (by decide)
  have q4 := hcell 4 (by decide)
  simp only [add_plain, List.getElem?_cons_zero, List.getElem?_cons_succ, Nat.add_zero] at q0 q1 q2 q3 q4
  have i0 : I64 m0 := bounds_i64 w0
  have i1 : I64 m1 := bounds_i64 w1
  have i2 : I64 m2 := bounds_i64 w2
  have i3 := bounds_u32 w3
  simp only [Prod.mk.injEq, List.map_cons, List.map_nil] at hx
  obtain ⟨rfl, _⟩ := hx
  rcases open_ints Try.underlying22 Try.underlying5 k4 h4 with ⟨hcs, rfl⟩ | ⟨x, l, c, zs, hcs, _, hll, hm, hz, rfl, hcz, hwz⟩
  · have hcs : c4 = _ := (List.cons.inj hcs).1
    subst hcs
    refine ⟨⟨m0, m1, m2, m3, none, 0, []⟩, ⟨i0, i1, i2, i3, Row.nil _ _, fun _ => rfl, Nat.le_refl _, Nat.zero_le _⟩, ⟨q0, q1, q2, q3, q4⟩, ?_⟩
    simp [Rows.uptoBulk, Rows.uptoBulkAll]
  · have hcs : c4 = _ := (List.cons.inj hcs).1
    subst hcs
    rw [if_pos rfl] at hz
    have hreach : c ≤ 140737488351232 := by
      have := hw ((zs.take l).length + (zs.drop l).length) (by
        simp only [DataW.weights, Try.underlying55]
        simp [DataW.weightsEach, DataW.weights, Try.underlying22, lits, show Try.prog.bytesOf 5 = 1 from by kernel_rfl])
      simp only [List.length_take, List.length_drop, reachBytes] at this
      omega
    have hrow : IsRow .u8 w (some x) l c zs := .inr ⟨x, rfl, hll, by simp only [kindBytes]; omega, hz, hcz, hwz⟩
    obtain ⟨L, hL, hLc, _, hr, hn⟩ := view hrow
    subst hL
    refine ⟨⟨m0, m1, m2, m3, some x, c, L⟩, ⟨i0, i1, i2, i3, hr, hn, hLc, hreach⟩, ⟨q0, q1, q2, q3, q4⟩, ?_⟩
    have hb := bulkAll_lits (H := H) .u8 (zs.take L.length)
    simp only [List.length_take] at hb
    simp [Rows.uptoBulk, Rows.uptoBulkAll]
    omega
theorem open_script {H : Type} {enc : TypeId × Value → H} {w : World} {fuel : Nat} {a : Option Addr} {len cap : Nat} {d : DataW H} {pl : List MemPlace}
    (h : DataW.trod enc Try.prog w 0 (fun _ => true) true fuel 52 [.slice a len cap] = some (d, pl)) (hw : ∀ n ∈ d.weights Try.prog 52, n ≤ reachBytes) :
    ∃ ops : List OpD, ops.length = len ∧ len ≤ cap ∧ Script w a ops ∧ (ops.map (fun o => o.b.length + 4)).sum ≤ Rows.uptoBulk d := by
  rcases open_slice Try.underlying52 h with ⟨hcs, hx⟩ | ⟨x, l, c, m, n, D, Pl, hcs, hb, hl, hm, hmm, hx, hel⟩
  · simp only [List.cons.injEq, Value.slice.injEq, and_true] at hcs
    obtain ⟨rfl, rfl, rfl⟩ := hcs
    exact ⟨[], rfl, Nat.le_refl _, ⟨by simp, by simp, .inl rfl⟩, by simp⟩
  · simp only [List.cons.injEq, Value.slice.injEq, and_true] at hcs
    obtain ⟨rfl, rfl, rfl⟩ := hcs
    simp only [Prod.mk.injEq] at hx
    obtain ⟨rfl, _⟩ := hx
    simp only [if_true] at hmm
    subst hmm
    rw [cells55] at hel
    have hreach : m ≤ 140737488351232 := by
      have := hw ((((List.range len).map D).length + ((List.range (m - len)).map fun j => D (len + j)).length) * Try.prog.bytesOf 55) (by simp [DataW.weights, Try.underlying52])
      rw [show Try.prog.bytesOf 55 = 56 from by kernel_rfl] at this
      simp only [List.length_map, List.length_range, reachBytes] at this
      omega
    by_cases h0 : len = 0
    · subst h0
      exact ⟨[], rfl, hl, ⟨by simp, by simp, .inl rfl⟩, by simp⟩
    obtain ⟨b, off, spot⟩ := x
    have hspot : spot = none := by
      obtain ⟨cs', h1, _⟩ := hel 0 (by omega)
      obtain ⟨_, hlen', hc⟩ := World.cells?_some h1
      have := hc 0 (by decide)
      rw [List.getElem?_eq_getElem (by omega)] at this
      simpa [Addr.add] using World.cell?_spot this
    subst hspot
    have hall : ∀ i, i < len → ∃ o : OpD, o.ok w ∧ Cells5 w b (off + i * 5) o ∧ o.b.length + 4 ≤ Rows.uptoBulk (D i) := by
      intro i hi
      obtain ⟨cs', h1, h2⟩ := hel i (by omega)
      rw [add_plain] at h1
      exact open_op h1 h2 (fun k hk => hw k (by
        simp only [DataW.weights, Try.underlying52, List.mem_cons, List.mem_append]
        exact .inr (.inl (weightsAll_mem 55 _ (D i) (by simp; exact ⟨i, hi, rfl⟩) k hk))))
    have hinh : Inhabited OpD := ⟨⟨0, 0, 0, 0, none, 0, []⟩⟩
    obtain ⟨F, hF⟩ := choose_lt (α := OpD) hall
    refine ⟨(List.range len).map F, by simp, hl, ⟨by simp; omega, ?_, .inr ⟨b, off, rfl, ?_⟩⟩, ?_⟩
    · intro o ho
      obtain ⟨i, hi, rfl⟩ := List.mem_map.mp ho
      exact (hF i (by simpa using hi)).1
    · intro i o ho
      have hi : i < len := by
        rcases Nat.lt_or_ge i len with h | h
        · exact h
        · rw [List.getElem?_eq_none (by simpa using h)] at ho; simp at ho
      simp [hi] at ho
      subst ho
      exact (hF i hi).2.1
    · have := bulkAll_ge (fun i => (F i).b.length + 4) D (List.range len) (fun i hi => (hF i (by simpa using hi)).2.2)
      rw [List.map_map]
      simp only [Rows.uptoBulk]
      exact Nat.le_trans this (by omega)
theorem Script.away {w w' : World} {a : Option Addr} {ops : List OpD} (h : Script w a ops) (hw : Away [] w w') : Script w' a ops := by
  obtain ⟨h1, h2, h3⟩ := h
  refine ⟨h1, fun o ho => (h2 o ho).away (S := []) hw, ?_⟩
  rcases h3 with h3 | ⟨b, off, h3, h4⟩
  · exact .inl h3
  · refine .inr ⟨b, off, h3, fun i o ho => ?_⟩
    obtain ⟨c0, c1, c2, c3, c4⟩ := h4 i o ho
    exact ⟨hw.cell (by simp) c0, hw.cell (by simp) c1, hw.cell (by simp) c2, hw.cell (by simp) c3, hw.cell (by simp) c4⟩
#print axioms open_script
end Go.Proofs.Ytaiomhhndckccaa
