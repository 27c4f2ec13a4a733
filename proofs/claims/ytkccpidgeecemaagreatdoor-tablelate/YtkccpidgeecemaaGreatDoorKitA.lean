/-
  Numbers that came in.
-/
import Derived.Test.YtkccpidgeecemaaGreatDoorTwB
import Derived.Test.YtkccpidgeecemaaGreatDoorCards
import Derived.Test.YtkccpidgeecemaaGreatDoorTie
import Derived.Deep.DeepHandedRow
import Derived.Deep.Slices
import Derived.Lib.LaidTab
import Derived.LaidSub
import Derived.ChangeOld
import Derived.Carry
namespace Go.Proofs.YtkccpidgeecemaaGreatDoor
open Go.ChangeShapes Go.WideShapes Go.ChangeAt Go.RowKit Go.Deep Num
set_option linter.unusedVariables false
set_option maxHeartbeats 4000000
set_option maxRecDepth 100000
theorem ownKn : ownKnob Tryz.prog.godebug = none := by kernel_rfl
theorem laidOut : laidOutB Tryz.prog = true := by kernel_rfl
def laidAll : List (String × DataW Unit) := [("mosaic/opts.shapes", Rows.laid_mosaic_opts_shapes)]
theorem glob_of {W : World} (hL : laidMet Tryz.prog laidAll W) : Glob W := by
  have t : Lib.TabIs Tryz.prog W "mosaic/opts.shapes" .i64 [0, 1, 2] := Lib.tabIs_of_head (rest := []) (g := 0) (t := 127) (n := 3) (by kernel_rfl) (by kernel_rfl) Tryz.underlying127 Tryz.underlying3 (by kernel_rfl) (by kernel_rfl) hL
  exact ⟨t.cell (by kernel_rfl) 0 (by decide), t.cell (by kernel_rfl) 1 (by decide), t.cell (by kernel_rfl) 2 (by decide)⟩
def setCs (cs : Array Value) : Obj → Obj
  | .cells _ t fr => .cells cs t fr
  | o => o
def laidWorld (P : Program) (os : Os) : World :=
  { World.holding P os ⟨#[], #[], []⟩ with heap := (World.holding P os ⟨#[], #[], []⟩).heap.modify 0 (setCs #[.int .i64 0, .int .i64 1, .int .i64 2]) }
def kindBytes : IntKind → Nat
  | .u8 => 1
  | .u16 => 2
  | _ => 8
def IsRow (k : IntKind) (w : World) (a : Option Addr) (len cap : Nat) (zs : List Int) : Prop :=
  (a = none ∧ len = 0 ∧ cap = 0 ∧ zs = []) ∨
  ∃ x, a = some x ∧ len ≤ cap ∧ cap * kindBytes k ≤ 140737488351232 ∧ zs.length = cap ∧ (∀ i, i < zs.length → w.cell? (x.add i) = some (.int k (zs.getD i 0))) ∧ ∀ n ∈ zs, (Lit.int k n).wf = true
theorem view {w : World} {a : Option Addr} {len cap : Nat} {zs : List Int} (h : IsRow .u8 w a len cap zs) :
    ∃ l : List Int, l.length = len ∧ len ≤ cap ∧ cap ≤ 140737488351232 ∧ Row w a l ∧ (a = none → cap = 0) := by
  rcases h with ⟨rfl, rfl, rfl, rfl⟩ | ⟨x, rfl, hl, hm, hz, hcell, hwz⟩
  · exact ⟨[], rfl, Nat.le_refl _, by omega, Row.nil _ _, fun _ => rfl⟩
  · simp only [kindBytes] at hm
    refine ⟨zs.take len, by simp; omega, hl, by omega, ⟨by simp; omega, fun n hn => bounds_u8 (hwz n (List.mem_of_mem_take hn)), ?_⟩, by simp⟩
    by_cases h0 : len = 0
    · left; subst h0; simp
    · right
      obtain ⟨b, off, spot⟩ := x
      have hspot : spot = none := by simpa [Addr.add] using World.cell?_spot (hcell 0 (by omega))
      subst hspot
      refine ⟨b, off, rfl, fun i hi => ?_⟩
      have hi' : i < len := by simp at hi; omega
      have := hcell i (by omega)
      rw [add_plain] at this
      rw [List.getElem?_take, if_pos hi']
      simpa using this
theorem bulkAll_lits {H : Type} (k : IntKind) : ∀ l : List Int, l.length ≤ Rows.uptoBulkAll (lits (H := H) k l)
  | [] => by simp
  | x :: r => by
    have h := bulkAll_lits (H := H) k r
    simp only [lits, List.map_cons, Rows.uptoBulkAll, List.length_cons, Rows.uptoBulk] at h ⊢
    omega
theorem open_cell {H : Type} {enc : TypeId × Value → H} {w : World} {fuel : Nat} {c : Value} {D : DataW H} {Pl : List MemPlace}
    (h : DataW.trod enc Tryz.prog w 0 (fun _ => true) true fuel 37 [c] = some (D, Pl)) (hw : ∀ n ∈ D.weights Tryz.prog 37, n ≤ reachBytes) :
    ∃ (a : Option Addr) (L : List Int) (cap : Nat), c = .slice a L.length cap ∧ L.length ≤ cap ∧ cap ≤ 140737488351232 ∧ Row w a L ∧ (a = none → cap = 0) ∧ L.length + 1 ≤ Rows.uptoBulk D := by
  have k4 := cells5
  rcases open_ints Tryz.underlying37 Tryz.underlying5 k4 h with ⟨hcs, hx⟩ | ⟨x, l, c', zs, hcs, _, hll, hm, hz, hx, hcz, hwz⟩
  · have hcs : c = _ := (List.cons.inj hcs).1
    have hD : D = _ := congrArg Prod.fst hx
    subst hcs; subst hD
    exact ⟨none, [], 0, rfl, Nat.le_refl _, by omega, Row.nil _ _, fun _ => rfl, by simp [Rows.uptoBulk]⟩
  · have hcs : c = _ := (List.cons.inj hcs).1
    have hD : D = _ := congrArg Prod.fst hx
    subst hcs; subst hD
    rw [if_pos rfl] at hz
    have hreach : c' ≤ 140737488351232 := by
      have := hw ((zs.take l).length + (zs.drop l).length) (by
        simp only [DataW.weights, Tryz.underlying37]
        simp [lits, show Tryz.prog.bytesOf 5 = 1 from by kernel_rfl])
      simp only [List.length_take, List.length_drop, reachBytes] at this
      omega
    have hrow : IsRow .u8 w (some x) l c' zs := .inr ⟨x, rfl, hll, by simp only [kindBytes]; omega, hz, hcz, hwz⟩
    obtain ⟨L, hL, hLc, _, hr, hn⟩ := view hrow
    subst hL
    refine ⟨some x, L, c', rfl, hLc, hreach, hr, hn, ?_⟩
    have hb := bulkAll_lits (H := H) .u8 (zs.take L.length)
    simp only [List.length_take] at hb
    simp [Rows.uptoBulk]
    omega
def nOf : Value → Int
  | .int _ n => n
  | _ => 0
theorem wf64k {n : Int} (h : (Lit.int .i64 n).wf = true) : i64ok n := bounds_i64 h
theorem wf32 {n : Int} (h : (Lit.int .u32 n).wf = true) : 0 ≤ n ∧ n ≤ 4294967295 := by
  have h5 : IntKind.u32.min ≤ n ∧ n ≤ IntKind.u32.max := by simpa [Lit.wf] using h
  exact ⟨h5.1, h5.2⟩
theorem open_adr {H : Type} {enc : TypeId × Value → H} {W : World} {base : Nat} {spare : Nat → Bool} {held : Bool} {fuel : Nat} {cs : List Value} {x : DataW H × List MemPlace} (h : DataW.trod enc Tryz.prog W base spare held fuel 35 cs = some x) (hsz : cs.length = 17) :
    ∃ (v : Int) (l : List Int), cs = cellsA v l ∧ l.length = 16 ∧ Bytes l ∧ i64ok v := by
  obtain ⟨xs, n, _, _, hlen, hxs, hfs⟩ := DataW.trod_struct Tryz.underlying35 h
  have h0 : DataW.trod enc Tryz.prog W base spare held n 3 ((cs.drop 0).take (Tryz.prog.cellsOf 3)) = xs[0]? := hfs 0 _ rfl
  have h1 : DataW.trod enc Tryz.prog W base spare held n 33 ((cs.drop 1).take (Tryz.prog.cellsOf 33)) = xs[1]? := hfs 1 _ rfl
  have hx2 : xs.length = 2 := by simpa using hxs
  rw [List.getElem?_eq_getElem (by omega)] at h0 h1
  obtain ⟨v, hv0, _, hvw⟩ := DataW.trod_int Tryz.underlying3 h0
  obtain ⟨ys, m, _, _, hl1, hys, hel⟩ := DataW.trod_array Tryz.underlying33 h1
  have hb : ∀ i, i < 16 → ∃ k : Int, cs[1 + i]? = some (.int .u8 k) ∧ (Lit.int .u8 k).wf = true := by
    intro i hi
    have h2 := hel i hi
    rw [List.getElem?_eq_getElem (by omega)] at h2
    obtain ⟨k, hk, _, hkw⟩ := DataW.trod_int Tryz.underlying5 h2
    refine ⟨k, ?_, hkw⟩
    rw [cells5, Nat.mul_one] at hk
    have h3 : ((List.take (Tryz.prog.cellsOf 33) (List.drop 1 cs)).drop i)[0]? = some (.int .u8 k) := by
      have := congrArg (fun l => l[0]?) hk
      simpa using this
    rw [cells22] at h3
    simp only [List.getElem?_drop, List.getElem?_take, Nat.add_zero] at h3
    rw [if_pos hi] at h3
    exact h3
  have hmap : ((cs.drop 1).map nOf).map (Value.int .u8) = cs.drop 1 := by
    rw [List.map_map]
    apply List.ext_getElem?
    intro i
    rw [List.getElem?_map, List.getElem?_drop]
    by_cases hi : i < 16
    · obtain ⟨k, hk, _⟩ := hb i hi
      rw [hk]; rfl
    · rw [List.getElem?_eq_none (by omega)]; rfl
  refine ⟨v, (cs.drop 1).map nOf, ?_, by simp; omega, ?_, wf64k hvw⟩
  · show cs = Value.int .i64 v :: ((cs.drop 1).map nOf).map (Value.int .u8)
    rw [hmap]
    have h3 : cs[0]? = some (.int .i64 v) := by
      have := congrArg (fun l => l[0]?) hv0
      rw [show Tryz.prog.cellsOf 3 = 1 from by kernel_rfl] at this
      simpa using this
    cases hcs : cs with
    | nil => rw [hcs] at h3; simp at h3
    | cons a r => rw [hcs] at h3; simp at h3; rw [h3]; rfl
  · intro y hy
    simp only [List.mem_map] at hy
    obtain ⟨z, hz, rfl⟩ := hy
    obtain ⟨i, hi⟩ := List.mem_iff_getElem?.1 hz
    rw [List.getElem?_drop] at hi
    have hi16 : i < 16 := by
      have := (List.getElem?_eq_some_iff.1 hi).1
      omega
    obtain ⟨k, hk, hkw⟩ := hb i hi16
    rw [hk] at hi
    simp only [Option.some.injEq] at hi
    subst hi
    have h5 : IntKind.u8.min ≤ k ∧ k ≤ IntKind.u8.max := by simpa [Lit.wf] using hkw
    exact ⟨h5.1, h5.2⟩
theorem cut_at {α : Type} (l : List α) (a b : Nat) : l.drop a = (l.drop a).take b ++ l.drop (a + b) := by
  rw [← List.drop_drop]; exact (List.take_append_drop b _).symm
theorem sizes28 : Tryz.prog.cellsOf 3 = 1 ∧ Tryz.prog.cellsOf 4 = 1 ∧ Tryz.prog.cellsOf 36 = 1 ∧ Tryz.prog.cellsOf 37 = 1 ∧ Tryz.prog.cellsOf 35 = 17 := ⟨by kernel_rfl, by kernel_rfl, by kernel_rfl, by kernel_rfl, by kernel_rfl⟩
theorem cells28 : Tryz.prog.cellsOf 39 = 46 := by kernel_rfl
theorem open_pktL {H : Type} {enc : TypeId × Value → H} {W : World} {fuel : Nat} {L : List Value} {d : DataW H} {pl : List MemPlace} (hLl : L.length = 46)
    (hf : DataW.trod enc Tryz.prog W 0 (fun _ => true) true fuel 39 L = some (d, pl)) (hw : ∀ n ∈ d.weights Tryz.prog 39, n ≤ reachBytes) :
    ∃ (p : Pk) (ov dv : Value), L = listP p ov dv ∧ Pkt W p ov dv ∧ p.o.length ≤ 140737488351232 ∧ p.d.length ≤ 140737488351232 := by
  obtain ⟨xs, n, _, hx, hlen, hxs, hfs⟩ := DataW.trod_struct Tryz.underlying39 hf
  obtain ⟨k3, k4, k25, k26, k24⟩ := sizes28
  have hx14 : xs.length = 14 := by simpa using hxs
  have f0 : DataW.trod enc Tryz.prog W 0 (fun _ => true) true n 3 ((L.drop 0).take (Tryz.prog.cellsOf 3)) = xs[0]? := hfs 0 _ rfl
  have f1 : DataW.trod enc Tryz.prog W 0 (fun _ => true) true n 3 ((L.drop 1).take (Tryz.prog.cellsOf 3)) = xs[1]? := hfs 1 _ rfl
  have f2 : DataW.trod enc Tryz.prog W 0 (fun _ => true) true n 3 ((L.drop 2).take (Tryz.prog.cellsOf 3)) = xs[2]? := hfs 2 _ rfl
  have f3 : DataW.trod enc Tryz.prog W 0 (fun _ => true) true n 35 ((L.drop 3).take (Tryz.prog.cellsOf 35)) = xs[3]? := hfs 3 _ rfl
  have f4 : DataW.trod enc Tryz.prog W 0 (fun _ => true) true n 35 ((L.drop 20).take (Tryz.prog.cellsOf 35)) = xs[4]? := hfs 4 _ rfl
  have f5 : DataW.trod enc Tryz.prog W 0 (fun _ => true) true n 3 ((L.drop 37).take (Tryz.prog.cellsOf 3)) = xs[5]? := hfs 5 _ rfl
  have f6 : DataW.trod enc Tryz.prog W 0 (fun _ => true) true n 3 ((L.drop 38).take (Tryz.prog.cellsOf 3)) = xs[6]? := hfs 6 _ rfl
  have f7 : DataW.trod enc Tryz.prog W 0 (fun _ => true) true n 36 ((L.drop 39).take (Tryz.prog.cellsOf 36)) = xs[7]? := hfs 7 _ rfl
  have f8 : DataW.trod enc Tryz.prog W 0 (fun _ => true) true n 4 ((L.drop 40).take (Tryz.prog.cellsOf 4)) = xs[8]? := hfs 8 _ rfl
  have f9 : DataW.trod enc Tryz.prog W 0 (fun _ => true) true n 4 ((L.drop 41).take (Tryz.prog.cellsOf 4)) = xs[9]? := hfs 9 _ rfl
  have f10 : DataW.trod enc Tryz.prog W 0 (fun _ => true) true n 4 ((L.drop 42).take (Tryz.prog.cellsOf 4)) = xs[10]? := hfs 10 _ rfl
  have f11 : DataW.trod enc Tryz.prog W 0 (fun _ => true) true n 3 ((L.drop 43).take (Tryz.prog.cellsOf 3)) = xs[11]? := hfs 11 _ rfl
  have f12 : DataW.trod enc Tryz.prog W 0 (fun _ => true) true n 37 ((L.drop 44).take (Tryz.prog.cellsOf 37)) = xs[12]? := hfs 12 _ rfl
  have f13 : DataW.trod enc Tryz.prog W 0 (fun _ => true) true n 37 ((L.drop 45).take (Tryz.prog.cellsOf 37)) = xs[13]? := hfs 13 _ rfl
  obtain ⟨y0, y1, y2, y3, y4, y5, y6, y7, y8, y9, y10, y11, y12, y13, rfl⟩ : ∃ y0 y1 y2 y3 y4 y5 y6 y7 y8 y9 y10 y11 y12 y13, xs = [y0, y1, y2, y3, y4, y5, y6, y7, y8, y9, y10, y11, y12, y13] := by
    match xs, hx14 with
    | [y0, y1, y2, y3, y4, y5, y6, y7, y8, y9, y10, y11, y12, y13], _ => exact ⟨y0, y1, y2, y3, y4, y5, y6, y7, y8, y9, y10, y11, y12, y13, rfl⟩
  obtain ⟨a0, e0, _, w0⟩ := DataW.trod_int Tryz.underlying3 f0
  obtain ⟨a1, e1, _, w1⟩ := DataW.trod_int Tryz.underlying3 f1
  obtain ⟨a2, e2, _, w2⟩ := DataW.trod_int Tryz.underlying3 f2
  rw [k24] at f3 f4
  obtain ⟨sv, sb, e3, s16, sby, swf⟩ := open_adr f3 (by simp; omega)
  obtain ⟨dv', db, e4, d16, dby, dwf⟩ := open_adr f4 (by simp; omega)
  obtain ⟨a5, e5, _, w5⟩ := DataW.trod_int Tryz.underlying3 f5
  obtain ⟨a6, e6, _, w6⟩ := DataW.trod_int Tryz.underlying3 f6
  obtain ⟨a7, e7, _, w7⟩ := DataW.trod_int Tryz.underlying36 f7
  obtain ⟨a8, e8, _⟩ := DataW.trod_bool Tryz.underlying4 f8
  obtain ⟨a9, e9, _⟩ := DataW.trod_bool Tryz.underlying4 f9
  obtain ⟨a10, e10, _⟩ := DataW.trod_bool Tryz.underlying4 f10
  obtain ⟨a11, e11, _, w11⟩ := DataW.trod_int Tryz.underlying3 f11
  rw [k3] at e0 e1 e2 e5 e6 e11
  rw [k25] at e7
  rw [k4] at e8 e9 e10
  rw [k26] at f12 f13
  obtain ⟨ov, e12⟩ : ∃ ov, (L.drop 44).take 1 = [ov] := by
    have : ((L.drop 44).take 1).length = 1 := by simp; omega
    exact List.length_eq_one_iff.1 this
  obtain ⟨dv, e13⟩ : ∃ ov, (L.drop 45).take 1 = [ov] := by
    have : ((L.drop 45).take 1).length = 1 := by simp; omega
    exact List.length_eq_one_iff.1 this
  rw [e12] at f12
  rw [e13] at f13
  obtain ⟨D12, P12⟩ := y12
  obtain ⟨D13, P13⟩ := y13
  simp only [Prod.mk.injEq, List.map_cons, List.map_nil] at hx
  obtain ⟨rfl, _⟩ := hx
  obtain ⟨oa, ol, ocap, rfl, og1, og2, og3, og4, _⟩ := open_cell f12 (fun k hk => hw k (by
    simp only [DataW.weights, Tryz.underlying39]
    simp [DataW.weightsEach, hk]))
  obtain ⟨da, dl, dcap, rfl, dg1, dg2, dg3, dg4, _⟩ := open_cell f13 (fun k hk => hw k (by
    simp only [DataW.weights, Tryz.underlying39]
    simp [DataW.weightsEach, hk]))
  have hw7 := wf32 w7
  refine ⟨⟨a0, a1, a2, sv, sb, dv', db, a5, a6, a7, a8, a9, a10, a11, ol, dl⟩, _, _, ?_, ⟨⟨wf64k w0, wf64k w1, wf64k w2, swf, s16, sby, dwf, d16, dby, wf64k w5, wf64k w6, hw7.1, hw7.2, wf64k w11, og3.2.1, og3.1, dg3.2.1, dg3.1⟩, ⟨oa, ocap, rfl, og1, og4, og3⟩, ⟨da, dcap, rfl, dg1, dg4, dg3⟩⟩, by show ol.length ≤ _; omega, by show dl.length ≤ _; omega⟩
  have c := cut_at L 0 1
  have cend : L.drop (0 + 1 + 1 + 1 + 17 + 17 + 1 + 1 + 1 + 1 + 1 + 1 + 1 + 1 + 1) = [] := List.drop_eq_nil_of_le (by omega)
  rw [e0, cut_at L (0 + 1) 1, e1, cut_at L (0 + 1 + 1) 1, e2, cut_at L (0 + 1 + 1 + 1) 17, e3, cut_at L (0 + 1 + 1 + 1 + 17) 17, e4, cut_at L (0 + 1 + 1 + 1 + 17 + 17) 1, e5, cut_at L (0 + 1 + 1 + 1 + 17 + 17 + 1) 1, e6, cut_at L (0 + 1 + 1 + 1 + 17 + 17 + 1 + 1) 1, e7,
    cut_at L (0 + 1 + 1 + 1 + 17 + 17 + 1 + 1 + 1) 1, e8, cut_at L (0 + 1 + 1 + 1 + 17 + 17 + 1 + 1 + 1 + 1) 1, e9, cut_at L (0 + 1 + 1 + 1 + 17 + 17 + 1 + 1 + 1 + 1 + 1) 1, e10, cut_at L (0 + 1 + 1 + 1 + 17 + 17 + 1 + 1 + 1 + 1 + 1 + 1) 1, e11,
    cut_at L (0 + 1 + 1 + 1 + 17 + 17 + 1 + 1 + 1 + 1 + 1 + 1 + 1) 1, e12, cut_at L (0 + 1 + 1 + 1 + 17 + 17 + 1 + 1 + 1 + 1 + 1 + 1 + 1 + 1) 1, e13, cend] at c
  rw [List.drop_zero] at c
  rw [c]
  show _ = listP _ _ _
  simp [listP]
theorem open_pkt {H : Type} {enc : TypeId × Value → H} {W : World} {base : Nat} {x : Value} {d : DataW H} {pl : List MemPlace} (hv : Value.okWide Tryz.prog W .any base 39 x)
    (h : DataW.Trod enc Tryz.prog W 0 (fun _ => true) true 39 x d pl) (hw : ∀ n ∈ d.weights Tryz.prog 39, n ≤ reachBytes) :
    ∃ (p : Pk) (ov dv : Value), x = .agg (csP p ov dv) ∧ Pkt W p ov dv ∧ p.o.length ≤ 140737488351232 ∧ p.d.length ≤ 140737488351232 := by
  obtain ⟨cs, rfl, hsz⟩ := okWide_struct Tryz.underlying39 hv
  rw [cells28] at hsz
  obtain ⟨fuel, hf⟩ := h
  simp only [Value.cells] at hf
  obtain ⟨p, ov, dv, h1, h2⟩ := open_pktL (by simpa using hsz) hf hw
  refine ⟨p, ov, dv, ?_, h2⟩
  congr 1
  apply Array.ext'
  rw [h1]; rfl
/-! A script: pieces of numbers. -/
set_option maxHeartbeats 8000000
namespace R
theorem open_nums {H : Type} {enc : TypeId × Value → H} {w : World} {a : Option Addr} {len cap : Nat} {d : DataW H} {p : List MemPlace}
    (h : DataW.Trod enc Tryz.prog w 0 (fun _ => true) true 59 (.slice a len cap) d p) (hw : ∀ n ∈ d.weights Tryz.prog 59, n ≤ reachBytes) : Ints w a len ∧ len ≤ 140737488355328 := by
  obtain ⟨fuel, hf⟩ := h
  have k4 : Tryz.prog.cellsOf 3 = 1 := by kernel_rfl
  rcases open_ints Tryz.underlying59 Tryz.underlying3 k4 (by simpa [Value.cells] using hf) with ⟨hcs, hx⟩ | ⟨x, l, c', zs, hcs, _, hll, hm, hz, hx, hcz, hwz⟩
  · have hcs := (List.cons.inj hcs).1
    simp only [Value.slice.injEq] at hcs
    obtain ⟨rfl, rfl, rfl⟩ := hcs
    exact ⟨fun i hi => by omega, by omega⟩
  · have hcs := (List.cons.inj hcs).1
    have hD : d = _ := congrArg Prod.fst hx
    subst hD
    simp only [Value.slice.injEq] at hcs
    obtain ⟨rfl, rfl, rfl⟩ := hcs
    rw [if_pos rfl] at hz
    have hreach : 8 * ((zs.take len).length + (zs.drop len).length) ≤ 140737488351232 := by
      have := hw (((zs.take len).length + (zs.drop len).length) * 8) (by
        simp only [DataW.weights, Tryz.underlying59]
        simp [lits, show Tryz.prog.bytesOf 3 = 8 from by kernel_rfl])
      simp only [reachBytes] at this
      omega
    simp only [List.length_take, List.length_drop] at hreach
    refine ⟨fun i hi => ?_, by omega⟩
    obtain ⟨b, off, spot⟩ := x
    have hspot : spot = none := by simpa [Addr.add] using World.cell?_spot (hcz 0 (by omega))
    subst hspot
    have h1 := hcz i (by omega)
    rw [add_plain] at h1
    refine ⟨b, off, zs.getD i 0, rfl, h1, bounds_i64 (hwz _ ?_)⟩
    rw [List.getD_eq_getElem?_getD, List.getElem?_eq_getElem (by omega)]
    exact List.getElem_mem _
end R
end Go.Proofs.YtkccpidgeecemaaGreatDoor
