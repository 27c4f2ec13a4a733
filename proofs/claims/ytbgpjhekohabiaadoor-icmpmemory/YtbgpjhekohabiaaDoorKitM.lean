/-
  A message that came in.
-/
import Derived.Test.YtbgpjhekohabiaaDoorKit
import Derived.Test.YtbgpjhekohabiaaDoorRefZ
import Derived.Test.YtbgpjhekohabiaaDoorLm
namespace Go.Proofs.YtbgpjhekohabiaaDoor
open Go.ChangeShapes Go.WideShapes Go.ChangeAt Go.RowKit Go.Deep Num
set_option linter.unusedVariables false
set_option maxHeartbeats 4000000
set_option maxRecDepth 100000

theorem sizesM : Tryd.prog.cellsOf 3 = 1 ∧ Tryd.prog.cellsOf 22 = 1 ∧ Tryd.prog.cellsOf 23 = 1 := ⟨by kernel_rfl, by kernel_rfl, by kernel_rfl⟩
theorem cellsM : Tryd.prog.cellsOf 25 = 5 := by kernel_rfl
theorem wfU {z : Int} (h : (Lit.int .u32 z).wf = true) : 0 ≤ z ∧ z ≤ 4294967295 := by
  simp [Lit.wf, IntKind.min, IntKind.max, IntKind.bits, IntKind.signed] at h; omega
/-- A message that came in. -/
theorem open_mg {H : Type} {enc : TypeId × Value → H} {W : World} {base : Nat} {x : Value} {d : DataW H} {pl : List MemPlace} (hv : Value.okWide Tryd.prog W .any base 25 x)
    (h : DataW.Trod enc Tryd.prog W 0 (fun _ => true) true 25 x d pl) (hw : ∀ n ∈ d.weights Tryd.prog 25, n ≤ reachBytes) :
    ∃ (g : Mg) (dv : Value), x = .agg (csM g dv) ∧ Dam W g dv ∧ g.d.length ≤ 140737488351232 := by
  obtain ⟨cs, rfl, hsz⟩ := okWide_struct Tryd.underlying25 hv
  rw [cellsM] at hsz
  obtain ⟨fuel, hf⟩ := h
  simp only [Value.cells] at hf
  generalize hL : cs.toList = L at hf
  have hLl : L.length = 5 := by rw [← hL]; simpa using hsz
  obtain ⟨xs, n, _, hx, hlen, hxs, hfs⟩ := DataW.trod_struct Tryd.underlying25 hf
  obtain ⟨k3, k4, k25⟩ := sizesM
  have hx4 : xs.length = 5 := by simpa using hxs
  have f0 : DataW.trod enc Tryd.prog W 0 (fun _ => true) true n 3 ((L.drop 0).take (Tryd.prog.cellsOf 3)) = xs[0]? := hfs 0 _ rfl
  have f1 : DataW.trod enc Tryd.prog W 0 (fun _ => true) true n 3 ((L.drop 1).take (Tryd.prog.cellsOf 3)) = xs[1]? := hfs 1 _ rfl
  have f2 : DataW.trod enc Tryd.prog W 0 (fun _ => true) true n 3 ((L.drop 2).take (Tryd.prog.cellsOf 3)) = xs[2]? := hfs 2 _ rfl
  have f3 : DataW.trod enc Tryd.prog W 0 (fun _ => true) true n 22 ((L.drop 3).take (Tryd.prog.cellsOf 22)) = xs[3]? := hfs 3 _ rfl
  have f4 : DataW.trod enc Tryd.prog W 0 (fun _ => true) true n 23 ((L.drop 4).take (Tryd.prog.cellsOf 23)) = xs[4]? := hfs 4 _ rfl
  obtain ⟨y0, y1, y2, y3, y4, rfl⟩ : ∃ y0 y1 y2 y3 y4, xs = [y0, y1, y2, y3, y4] := by
    match xs, hx4 with
    | [y0, y1, y2, y3, y4], _ => exact ⟨y0, y1, y2, y3, y4, rfl⟩
  obtain ⟨l0, l1, l2, l3, l4, rfl⟩ : ∃ l0 l1 l2 l3 l4, L = [l0, l1, l2, l3, l4] := by
    match L, hLl with
    | [l0, l1, l2, l3, l4], _ => exact ⟨l0, l1, l2, l3, l4, rfl⟩
  obtain ⟨a0, e0, _, w0⟩ := DataW.trod_int Tryd.underlying3 f0
  obtain ⟨a1, e1, _, w1⟩ := DataW.trod_int Tryd.underlying3 f1
  obtain ⟨a2, e2, _, w2⟩ := DataW.trod_int Tryd.underlying3 f2
  obtain ⟨a3, e3, _, w3⟩ := DataW.trod_int Tryd.underlying22 f3
  rw [k3] at e0 e1 e2
  rw [k4] at e3
  rw [k25] at f4
  simp only [List.drop_zero, List.drop_succ_cons, List.take_succ_cons, List.take_zero, List.cons.injEq, and_true] at e0 e1 e2 e3 f4
  subst e0; subst e1; subst e2; subst e3
  obtain ⟨D4, P4⟩ := y4
  simp only [Prod.mk.injEq, List.map_cons, List.map_nil] at hx
  obtain ⟨rfl, _⟩ := hx
  obtain ⟨da, dl, dcap, rfl, dg1, dg2, dg3, dg4, _⟩ := open_cell f4 (fun k hk => hw k (by
    simp only [DataW.weights, Tryd.underlying25]
    simp [DataW.weightsEach, hk]))
  obtain ⟨u0, u1⟩ := wfU w3
  refine ⟨⟨a0, a1, a2, a3, dl⟩, .slice da dl.length dcap, ?_, ⟨⟨wf64 w0, wf64 w1, wf64 w2, u0, u1, dg3.2.1, dg3.1⟩, ⟨da, dcap, rfl, dg1, dg4, dg3⟩⟩, by show dl.length ≤ _; omega⟩
  congr 1
  apply Array.ext'
  rw [hL]
  rfl
end Go.Proofs.YtbgpjhekohabiaaDoor
