/-
  alive.
-/
import Derived.Test.YtbkeilboneaejaaGreatDoorEPut
import Derived.Test.YtbkeilboneaejaaGreatDoorCards
import Derived.Test.YtbkeilboneaejaaGreatDoorTie
import Derived.Deep.DeepHandedRow
import Derived.Deep.Slices
import Derived.Lib.LaidTab
import Derived.LaidSub
import Derived.ChangeOld
import Derived.Carry
import Derived.Laws.IdiomStrings
namespace Go.Proofs.YtbkeilboneaejaaGreatDoor
open Go.ChangeShapes Go.WideShapes Go.ChangeAt Go.RowKit Go.Deep Num
set_option linter.unusedVariables false
set_option maxHeartbeats 4000000
set_option maxRecDepth 100000

theorem ownKn : ownKnob Tryz.prog.godebug = none := by kernel_rfl
theorem laidOut : laidOutB Tryz.prog = true := by kernel_rfl
def laidAll : List (String × DataW Unit) := [("mosaic/opts.shapes", Rows.laid_mosaic_opts_shapes)]
theorem glob_of {W : World} (hL : laidMet Tryz.prog laidAll W) : Glob W := by
  have t : Lib.TabIs Tryz.prog W "mosaic/opts.shapes" .i64 [0, 1, 2] := Lib.tabIs_of_head (rest := []) (g := 0) (t := 138) (n := 3) (by kernel_rfl) (by kernel_rfl) Tryz.underlying138 Tryz.underlying3 (by kernel_rfl) (by kernel_rfl) hL
  exact ⟨t.cell (by kernel_rfl) 0 (by decide), t.cell (by kernel_rfl) 1 (by decide), t.cell (by kernel_rfl) 2 (by decide)⟩
def setCs (cs : Array Value) : Obj → Obj
  | .cells _ t fr => .cells cs t fr
  | o => o
def laidWorld (P : Program) (os : Os) : World :=
  { World.holding P os ⟨#[], #[], []⟩ with heap := (World.holding P os ⟨#[], #[], []⟩).heap.modify 0 (setCs #[.int .i64 0, .int .i64 1, .int .i64 2]) }

def kindBytes : IntKind → Nat
  | .u8 => 1
  | .u16 => 2
  | _ => 8

/-- A slice of integers that came in: nil, or a row of 'cap' cells. -/
def IsRow (k : IntKind) (w : World) (a : Option Addr) (len cap : Nat) (zs : List Int) : Prop :=
  (a = none ∧ len = 0 ∧ cap = 0 ∧ zs = []) ∨
  ∃ x, a = some x ∧ len ≤ cap ∧ cap * kindBytes k ≤ 140737488351232 ∧ zs.length = cap ∧ (∀ i, i < zs.length → w.cell? (x.add i) = some (.int k (zs.getD i 0))) ∧ ∀ n ∈ zs, (Lit.int k n).wf = true

/-- Of bytes: their list. -/
theorem view {w : World} {a : Option Addr} {len cap : Nat} {zs : List Int} (h : IsRow .u8 w a len cap zs) :
    ∃ l : List Int, l.length = len ∧ len ≤ cap ∧ cap ≤ 140737488351232 ∧ Row w a l ∧ (a = none → cap = 0) := by
  rcases h with ⟨rfl, rfl, rfl, rfl⟩ | ⟨x, rfl, hl, hm, hz, hcell, hwz⟩
  · exact ⟨[], rfl, Nat.le_refl _, by omega, Row.nil _ _, fun _ => rfl⟩
  · simp only [kindBytes] at hm
    refine ⟨zs.take len, by simp; omega, hl, by omega, ⟨by simp; omega, fun n hn => bounds_u8 (hwz n (List.mem_of_mem_take hn)), ?_⟩, by simp⟩
    by_cases h0 : len = 0
    · left; subst h0; simp
    · right
      obtain ⟨b, off, spot⟩ := x
      have hspot : spot = none := by simpa [Addr.add] using World.cell?_spot (hcell 0 (by omega))
      subst hspot
      refine ⟨b, off, rfl, fun i hi => ?_⟩
      have hi' : i < len := by simp at hi; omega
      have := hcell i (by omega)
      rw [add_plain] at this
      rw [List.getElem?_take, if_pos hi']
      simpa using this

theorem bulkAll_ge {H : Type} (f : Nat → Nat) (D : Nat → DataW H) : ∀ l : List Nat, (∀ i ∈ l, f i ≤ Rows.uptoBulk (D i)) → (l.map f).sum ≤ Rows.uptoBulkAll (l.map D)
  | [], _ => by simp
  | i :: r, h => by
    have h1 := h i (by simp)
    have h2 := bulkAll_ge f D r (fun j hj => h j (List.mem_cons_of_mem _ hj))
    simp only [List.map_cons, List.sum_cons, Rows.uptoBulkAll]
    omega
theorem bulkAll_lits {H : Type} (k : IntKind) : ∀ l : List Int, l.length ≤ Rows.uptoBulkAll (lits (H := H) k l)
  | [] => by simp
  | x :: r => by
    have h := bulkAll_lits (H := H) k r
    simp only [lits, List.map_cons, Rows.uptoBulkAll, List.length_cons, Rows.uptoBulk] at h ⊢
    omega
theorem weightsAll_mem {H : Type} (e : TypeId) : ∀ (l : List (DataW H)) (d : DataW H), d ∈ l → ∀ n ∈ d.weights Tryz.prog e, n ∈ DataW.weightsAll Tryz.prog e l
  | [], _, h, _, _ => by simp at h
  | x :: r, d, h, n, hn => by
    simp only [DataW.weightsAll, List.mem_append]
    rcases List.mem_cons.mp h with rfl | h
    · exact .inl hn
    · exact .inr (weightsAll_mem e r d h n hn)


theorem bulk_mem {H : Type} : ∀ {ds : List (DataW H)} {d : DataW H}, d ∈ ds → Rows.uptoBulk d ≤ Rows.uptoBulkAll ds
  | [], _, h => by simp at h
  | x :: r, d, h => by
    simp only [List.mem_cons] at h
    simp only [Rows.uptoBulkAll]
    rcases h with rfl | h
    · omega
    · have := bulk_mem h; omega
theorem small_mem {H : Type} {ds : List (DataW H)} {d : DataW H} (hk : Rows.uptoSmall H ds = true) (hm : d ∈ ds) : Rows.uptoBulk d ≤ 1048576 :=
  Nat.le_trans (bulk_mem hm) (of_decide_eq_true hk)
/-- Bytes that came in. -/
theorem open_cell {H : Type} {enc : TypeId × Value → H} {w : World} {fuel : Nat} {c : Value} {D : DataW H} {Pl : List MemPlace}
    (h : DataW.trod enc Tryz.prog w 0 (fun _ => true) true fuel 26 [c] = some (D, Pl)) (hw : ∀ n ∈ D.weights Tryz.prog 26, n ≤ reachBytes) :
    ∃ (a : Option Addr) (L : List Int) (cap : Nat), c = .slice a L.length cap ∧ L.length ≤ cap ∧ cap ≤ 140737488351232 ∧ Row w a L ∧ (a = none → cap = 0) ∧ L.length + 1 ≤ Rows.uptoBulk D := by
  have k4 := cells5
  rcases open_ints Tryz.underlying26 Tryz.underlying5 k4 h with ⟨hcs, hx⟩ | ⟨x, l, c', zs, hcs, _, hll, hm, hz, hx, hcz, hwz⟩
  · have hcs : c = _ := (List.cons.inj hcs).1
    have hD : D = _ := congrArg Prod.fst hx
    subst hcs; subst hD
    exact ⟨none, [], 0, rfl, Nat.le_refl _, by omega, Row.nil _ _, fun _ => rfl, by simp [Rows.uptoBulk]⟩
  · have hcs : c = _ := (List.cons.inj hcs).1
    have hD : D = _ := congrArg Prod.fst hx
    subst hcs; subst hD
    rw [if_pos rfl] at hz
    have hreach : c' ≤ 140737488351232 := by
      have := hw ((zs.take l).length + (zs.drop l).length) (by
        simp only [DataW.weights, Tryz.underlying26]
        simp [lits, show Tryz.prog.bytesOf 5 = 1 from by kernel_rfl])
      simp only [List.length_take, List.length_drop, reachBytes] at this
      omega
    have hrow : IsRow .u8 w (some x) l c' zs := .inr ⟨x, rfl, hll, by simp only [kindBytes]; omega, hz, hcz, hwz⟩
    obtain ⟨L, hL, hLc, _, hr, hn⟩ := view hrow
    subst hL
    refine ⟨some x, L, c', rfl, hLc, hreach, hr, hn, ?_⟩
    have hb := bulkAll_lits (H := H) .u8 (zs.take L.length)
    simp only [List.length_take] at hb
    simp [Rows.uptoBulk]
    omega
theorem open_bytes {H : Type} {enc : TypeId × Value → H} {w : World} {a : Option Addr} {len cap : Nat} {d : DataW H} {p : List MemPlace}
    (h : DataW.Trod enc Tryz.prog w 0 (fun _ => true) true 26 (.slice a len cap) d p) (hw : ∀ n ∈ d.weights Tryz.prog 26, n ≤ reachBytes) :
    ∃ L : List Int, L.length = len ∧ len ≤ cap ∧ cap ≤ 140737488351232 ∧ Row w a L ∧ (a = none → cap = 0) ∧ L.length ≤ Rows.uptoBulk d := by
  obtain ⟨fuel, hf⟩ := h
  obtain ⟨a', L, cap', e, h1, h2, h3, h4, h5⟩ := open_cell (c := .slice a len cap) (by simpa [Value.cells] using hf) hw
  simp only [Value.slice.injEq] at e
  obtain ⟨rfl, rfl, rfl⟩ := e
  exact ⟨L, rfl, h1, h2, h3, h4, by omega⟩

def nOf : Value → Int
  | .int _ n => n
  | _ => 0
theorem wf64 {n : Int} (h : (Lit.int .i64 n).wf = true) : i64ok n := bounds_i64 h
theorem wf32 {n : Int} (h : (Lit.int .u32 n).wf = true) : 0 ≤ n ∧ n ≤ 4294967295 := by
  have h5 : IntKind.u32.min ≤ n ∧ n ≤ IntKind.u32.max := by simpa [Lit.wf] using h
  exact ⟨h5.1, h5.2⟩
theorem open_adr {H : Type} {enc : TypeId × Value → H} {W : World} {base : Nat} {spare : Nat → Bool} {held : Bool} {fuel : Nat} {cs : List Value} {x : DataW H × List MemPlace} (h : DataW.trod enc Tryz.prog W base spare held fuel 24 cs = some x) (hsz : cs.length = 17) :
    ∃ (v : Int) (l : List Int), cs = cellsA v l ∧ l.length = 16 ∧ Bytes l ∧ i64ok v := by
  obtain ⟨xs, n, _, _, hlen, hxs, hfs⟩ := DataW.trod_struct Tryz.underlying24 h
  have h0 : DataW.trod enc Tryz.prog W base spare held n 3 ((cs.drop 0).take (Tryz.prog.cellsOf 3)) = xs[0]? := hfs 0 _ rfl
  have h1 : DataW.trod enc Tryz.prog W base spare held n 22 ((cs.drop 1).take (Tryz.prog.cellsOf 22)) = xs[1]? := hfs 1 _ rfl
  have hx2 : xs.length = 2 := by simpa using hxs
  rw [List.getElem?_eq_getElem (by omega)] at h0 h1
  obtain ⟨v, hv0, _, hvw⟩ := DataW.trod_int Tryz.underlying3 h0
  obtain ⟨ys, m, _, _, hl1, hys, hel⟩ := DataW.trod_array Tryz.underlying22 h1
  have hb : ∀ i, i < 16 → ∃ k : Int, cs[1 + i]? = some (.int .u8 k) ∧ (Lit.int .u8 k).wf = true := by
    intro i hi
    have h2 := hel i hi
    rw [List.getElem?_eq_getElem (by omega)] at h2
    obtain ⟨k, hk, _, hkw⟩ := DataW.trod_int Tryz.underlying5 h2
    refine ⟨k, ?_, hkw⟩
    rw [cells5, Nat.mul_one] at hk
    have h3 : ((List.take (Tryz.prog.cellsOf 22) (List.drop 1 cs)).drop i)[0]? = some (.int .u8 k) := by
      have := congrArg (fun l => l[0]?) hk
      simpa using this
    rw [cells22] at h3
    simp only [List.getElem?_drop, List.getElem?_take, Nat.add_zero] at h3
    rw [if_pos hi] at h3
    exact h3
  have hmap : ((cs.drop 1).map nOf).map (Value.int .u8) = cs.drop 1 := by
    rw [List.map_map]
    apply List.ext_getElem?
    intro i
    rw [List.getElem?_map, List.getElem?_drop]
    by_cases hi : i < 16
    · obtain ⟨k, hk, _⟩ := hb i hi
      rw [hk]; rfl
    · rw [List.getElem?_eq_none (by omega)]; rfl
  refine ⟨v, (cs.drop 1).map nOf, ?_, by simp; omega, ?_, wf64 hvw⟩
  · show cs = Value.int .i64 v :: ((cs.drop 1).map nOf).map (Value.int .u8)
    rw [hmap]
    have h3 : cs[0]? = some (.int .i64 v) := by
      have := congrArg (fun l => l[0]?) hv0
      rw [show Tryz.prog.cellsOf 3 = 1 from by kernel_rfl] at this
      simpa using this
    cases hcs : cs with
    | nil => rw [hcs] at h3; simp at h3
    | cons a r => rw [hcs] at h3; simp at h3; rw [h3]; rfl
  · intro y hy
    simp only [List.mem_map] at hy
    obtain ⟨z, hz, rfl⟩ := hy
    obtain ⟨i, hi⟩ := List.mem_iff_getElem?.1 hz
    rw [List.getElem?_drop] at hi
    have hi16 : i < 16 := by
      have := (List.getElem?_eq_some_iff.1 hi).1
      omega
    obtain ⟨k, hk, hkw⟩ := hb i hi16
    rw [hk] at hi
    simp only [Option.some.injEq] at hi
    subst hi
    have h5 : IntKind.u8.min ≤ k ∧ k ≤ IntKind.u8.max := by simpa [Lit.wf] using hkw
    exact ⟨h5.1, h5.2⟩
theorem cut_at {α : Type} (l : List α) (a b : Nat) : l.drop a = (l.drop a).take b ++ l.drop (a + b) := by
  rw [← List.drop_drop]; exact (List.take_append_drop b _).symm
theorem sizes28 : Tryz.prog.cellsOf 3 = 1 ∧ Tryz.prog.cellsOf 4 = 1 ∧ Tryz.prog.cellsOf 25 = 1 ∧ Tryz.prog.cellsOf 26 = 1 ∧ Tryz.prog.cellsOf 24 = 17 := ⟨by kernel_rfl, by kernel_rfl, by kernel_rfl, by kernel_rfl, by kernel_rfl⟩
theorem cells28 : Tryz.prog.cellsOf 28 = 46 := by kernel_rfl
/-- A packet that came in. -/
theorem open_pktL {H : Type} {enc : TypeId × Value → H} {W : World} {fuel : Nat} {L : List Value} {d : DataW H} {pl : List MemPlace} (hLl : L.length = 46)
    (hf : DataW.trod enc Tryz.prog W 0 (fun _ => true) true fuel 28 L = some (d, pl)) (hw : ∀ n ∈ d.weights Tryz.prog 28, n ≤ reachBytes) :
    ∃ (p : Pk) (ov dv : Value), L = listP p ov dv ∧ Pkt W p ov dv ∧ p.o.length ≤ 140737488351232 ∧ p.d.length ≤ 140737488351232 := by
  obtain ⟨xs, n, _, hx, hlen, hxs, hfs⟩ := DataW.trod_struct Tryz.underlying28 hf
  obtain ⟨k3, k4, k25, k26, k24⟩ := sizes28
  have hx14 : xs.length = 14 := by simpa using hxs
  have f0 : DataW.trod enc Tryz.prog W 0 (fun _ => true) true n 3 ((L.drop 0).take (Tryz.prog.cellsOf 3)) = xs[0]? := hfs 0 _ rfl
  have f1 : DataW.trod enc Tryz.prog W 0 (fun _ => true) true n 3 ((L.drop 1).take (Tryz.prog.cellsOf 3)) = xs[1]? := hfs 1 _ rfl
  have f2 : DataW.trod enc Tryz.prog W 0 (fun _ => true) true n 3 ((L.drop 2).take (Tryz.prog.cellsOf 3)) = xs[2]? := hfs 2 _ rfl
  have f3 : DataW.trod enc Tryz.prog W 0 (fun _ => true) true n 24 ((L.drop 3).take (Tryz.prog.cellsOf 24)) = xs[3]? := hfs 3 _ rfl
  have f4 : DataW.trod enc Tryz.prog W 0 (fun _ => true) true n 24 ((L.drop 20).take (Tryz.prog.cellsOf 24)) = xs[4]? := hfs 4 _ rfl
  have f5 : DataW.trod enc Tryz.prog W 0 (fun _ => true) true n 3 ((L.drop 37).take (Tryz.prog.cellsOf 3)) = xs[5]? := hfs 5 _ rfl
  have f6 : DataW.trod enc Tryz.prog W 0 (fun _ => true) true n 3 ((L.drop 38).take (Tryz.prog.cellsOf 3)) = xs[6]? := hfs 6 _ rfl
  have f7 : DataW.trod enc Tryz.prog W 0 (fun _ => true) true n 25 ((L.drop 39).take (Tryz.prog.cellsOf 25)) = xs[7]? := hfs 7 _ rfl
  have f8 : DataW.trod enc Tryz.prog W 0 (fun _ => true) true n 4 ((L.drop 40).take (Tryz.prog.cellsOf 4)) = xs[8]? := hfs 8 _ rfl
  have f9 : DataW.trod enc Tryz.prog W 0 (fun _ => true) true n 4 ((L.drop 41).take (Tryz.prog.cellsOf 4)) = xs[9]? := hfs 9 _ rfl
  have f10 : DataW.trod enc Tryz.prog W 0 (fun _ => true) true n 4 ((L.drop 42).take (Tryz.prog.cellsOf 4)) = xs[10]? := hfs 10 _ rfl
  have f11 : DataW.trod enc Tryz.prog W 0 (fun _ => true) true n 3 ((L.drop 43).take (Tryz.prog.cellsOf 3)) = xs[11]? := hfs 11 _ rfl
  have f12 : DataW.trod enc Tryz.prog W 0 (fun _ => true) true n 26 ((L.drop 44).take (Tryz.prog.cellsOf 26)) = xs[12]? := hfs 12 _ rfl
  have f13 : DataW.trod enc Tryz.prog W 0 (fun _ => true) true n 26 ((L.drop 45).take (Tryz.prog.cellsOf 26)) = xs[13]? := hfs 13 _ rfl
  obtain ⟨y0, y1, y2, y3, y4, y5, y6, y7, y8, y9, y10, y11, y12, y13, rfl⟩ : ∃ y0 y1 y2 y3 y4 y5 y6 y7 y8 y9 y10 y11 y12 y13, xs = [y0, y1, y2, y3, y4, y5, y6, y7, y8, y9, y10, y11, y12, y13] := by
    match xs, hx14 with
    | [y0, y1, y2, y3, y4, y5, y6, y7, y8, y9, y10, y11, y12, y13], _ => exact ⟨y0, y1, y2, y3, y4, y5, y6, y7, y8, y9, y10, y11, y12, y13, rfl⟩
  obtain ⟨a0, e0, _, w0⟩ := DataW.trod_int Tryz.underlying3 f0
  obtain ⟨a1, e1, _, w1⟩ := DataW.trod_int Tryz.underlying3 f1
  obtain ⟨a2, e2, _, w2⟩ := DataW.trod_int Tryz.underlying3 f2
  rw [k24] at f3 f4
  obtain ⟨sv, sb, e3, s16, sby, swf⟩ := open_adr f3 (by simp; omega)
  obtain ⟨dv', db, e4, d16, dby, dwf⟩ := open_adr f4 (by simp; omega)
  obtain ⟨a5, e5, _, w5⟩ := DataW.trod_int Tryz.underlying3 f5
  obtain ⟨a6, e6, _, w6⟩ := DataW.trod_int Tryz.underlying3 f6
  obtain ⟨a7, e7, _, w7⟩ := DataW.trod_int Tryz.underlying25 f7
  obtain ⟨a8, e8, _⟩ := DataW.trod_bool Tryz.underlying4 f8
  obtain ⟨a9, e9, _⟩ := DataW.trod_bool Tryz.underlying4 f9
  obtain ⟨a10, e10, _⟩ := DataW.trod_bool Tryz.underlying4 f10
  obtain ⟨a11, e11, _, w11⟩ := DataW.trod_int Tryz.underlying3 f11
  rw [k3] at e0 e1 e2 e5 e6 e11
  rw [k25] at e7
  rw [k4] at e8 e9 e10
  rw [k26] at f12 f13
  obtain ⟨ov, e12⟩ : ∃ ov, (L.drop 44).take 1 = [ov] := by
    have : ((L.drop 44).take 1).length = 1 := by simp; omega
    exact List.length_eq_one_iff.1 this
  obtain ⟨dv, e13⟩ : ∃ ov, (L.drop 45).take 1 = [ov] := by
    have : ((L.drop 45).take 1).length = 1 := by simp; omega
    exact List.length_eq_one_iff.1 this
  rw [e12] at f12
  rw [e13] at f13
  obtain ⟨D12, P12⟩ := y12
  obtain ⟨D13, P13⟩ := y13
  simp only [Prod.mk.injEq, List.map_cons, List.map_nil] at hx
  obtain ⟨rfl, _⟩ := hx
  obtain ⟨oa, ol, ocap, rfl, og1, og2, og3, og4, _⟩ := open_cell f12 (fun k hk => hw k (by
    simp only [DataW.weights, Tryz.underlying28]
    simp [DataW.weightsEach, hk]))
  obtain ⟨da, dl, dcap, rfl, dg1, dg2, dg3, dg4, _⟩ := open_cell f13 (fun k hk => hw k (by
    simp only [DataW.weights, Tryz.underlying28]
    simp [DataW.weightsEach, hk]))
  have hw7 := wf32 w7
  refine ⟨⟨a0, a1, a2, sv, sb, dv', db, a5, a6, a7, a8, a9, a10, a11, ol, dl⟩, _, _, ?_, ⟨⟨wf64 w0, wf64 w1, wf64 w2, swf, s16, sby, dwf, d16, dby, wf64 w5, wf64 w6, hw7.1, hw7.2, wf64 w11, og3.2.1, og3.1, dg3.2.1, dg3.1⟩, ⟨oa, ocap, rfl, og1, og4, og3⟩, ⟨da, dcap, rfl, dg1, dg4, dg3⟩⟩, by show ol.length ≤ _; omega, by show dl.length ≤ _; omega⟩
  have c := cut_at L 0 1
  have cend : L.drop (0 + 1 + 1 + 1 + 17 + 17 + 1 + 1 + 1 + 1 + 1 + 1 + 1 + 1 + 1) = [] := List.drop_eq_nil_of_le (by omega)
  rw [e0, cut_at L (0 + 1) 1, e1, cut_at L (0 + 1 + 1) 1, e2, cut_at L (0 + 1 + 1 + 1) 17, e3, cut_at L (0 + 1 + 1 + 1 + 17) 17, e4, cut_at L (0 + 1 + 1 + 1 + 17 + 17) 1, e5, cut_at L (0 + 1 + 1 + 1 + 17 + 17 + 1) 1, e6, cut_at L (0 + 1 + 1 + 1 + 17 + 17 + 1 + 1) 1, e7,
    cut_at L (0 + 1 + 1 + 1 + 17 + 17 + 1 + 1 + 1) 1, e8, cut_at L (0 + 1 + 1 + 1 + 17 + 17 + 1 + 1 + 1 + 1) 1, e9, cut_at L (0 + 1 + 1 + 1 + 17 + 17 + 1 + 1 + 1 + 1 + 1) 1, e10, cut_at L (0 + 1 + 1 + 1 + 17 + 17 + 1 + 1 + 1 + 1 + 1 + 1) 1, e11,
    cut_at L (0 + 1 + 1 + 1 + 17 + 17 + 1 + 1 + 1 + 1 + 1 + 1 + 1) 1, e12, cut_at L (0 + 1 + 1 + 1 + 17 + 17 + 1 + 1 + 1 + 1 + 1 + 1 + 1 + 1) 1, e13, cend] at c
  rw [List.drop_zero] at c
  rw [c]
  show _ = listP _ _ _
  simp [listP]
theorem open_pkt {H : Type} {enc : TypeId × Value → H} {W : World} {base : Nat} {x : Value} {d : DataW H} {pl : List MemPlace} (hv : Value.okWide Tryz.prog W .any base 28 x)
    (h : DataW.Trod enc Tryz.prog W 0 (fun _ => true) true 28 x d pl) (hw : ∀ n ∈ d.weights Tryz.prog 28, n ≤ reachBytes) :
    ∃ (p : Pk) (ov dv : Value), x = .agg (csP p ov dv) ∧ Pkt W p ov dv ∧ p.o.length ≤ 140737488351232 ∧ p.d.length ≤ 140737488351232 := by
  obtain ⟨cs, rfl, hsz⟩ := okWide_struct Tryz.underlying28 hv
  rw [cells28] at hsz
  obtain ⟨fuel, hf⟩ := h
  simp only [Value.cells] at hf
  obtain ⟨p, ov, dv, h1, h2⟩ := open_pktL (by simpa using hsz) hf hw
  refine ⟨p, ov, dv, ?_, h2⟩
  congr 1
  apply Array.ext'
  rw [h1]; rfl
/-- Packets that came in. -/
theorem open_pkts {H : Type} {enc : TypeId × Value → H} {w : World} {a : Option Addr} {len cap : Nat} {d : DataW H} {p : List MemPlace}
    (h : DataW.Trod enc Tryz.prog w 0 (fun _ => true) true 32 (.slice a len cap) d p) (hw : ∀ n ∈ d.weights Tryz.prog 32, n ≤ reachBytes) :
    ∃ xs : List X, xs.length = len ∧ len ≤ 925904528626 ∧ (∀ x ∈ xs, x.ok w ∧ x.p.o.length ≤ 140737488351232 ∧ x.p.d.length ≤ 140737488351232) ∧ (xs = [] ∨ ∃ b off, a = some ⟨b, off, none⟩ ∧ ∀ i x, xs[i]? = some x → w.rangeAt b (off + i * 46) x.cells) := by
  obtain ⟨fuel, hf⟩ := h
  have h : DataW.trod enc Tryz.prog w 0 (fun _ => true) true fuel 32 [.slice a len cap] = some (d, p) := by simpa [Value.cells] using hf
  rcases open_slice Tryz.underlying32 h with ⟨hcs, hx⟩ | ⟨x, l, c, m, n, D, Pl, hcs, hb, hl, hm, hmm, hx, hel⟩
  · simp only [List.cons.injEq, Value.slice.injEq, and_true] at hcs
    obtain ⟨rfl, rfl, rfl⟩ := hcs
    exact ⟨[], rfl, by omega, by simp, .inl rfl⟩
  · simp only [List.cons.injEq, Value.slice.injEq, and_true] at hcs
    obtain ⟨rfl, rfl, rfl⟩ := hcs
    simp only [Prod.mk.injEq] at hx
    obtain ⟨rfl, _⟩ := hx
    simp only [if_true] at hmm
    subst hmm
    rw [cells28] at hel
    have hreach : m * 152 ≤ 140737488351232 := by
      have := hw ((((List.range len).map D).length + ((List.range (m - len)).map fun j => D (len + j)).length) * Tryz.prog.bytesOf 28) (by simp [DataW.weights, Tryz.underlying32])
      rw [show Tryz.prog.bytesOf 28 = 152 from by kernel_rfl] at this
      simp only [List.length_map, List.length_range, reachBytes] at this
      omega
    by_cases h0 : len = 0
    · subst h0
      exact ⟨[], rfl, by omega, by simp, .inl rfl⟩
    obtain ⟨b, off, spot⟩ := x
    have hspot : spot = none := by
      obtain ⟨cs', h1, _⟩ := hel 0 (by omega)
      obtain ⟨_, hlen', hc⟩ := World.cells?_some h1
      have := hc 0 (by decide)
      rw [List.getElem?_eq_getElem (by omega)] at this
      simpa [Addr.add] using World.cell?_spot this
    subst hspot
    have hall : ∀ i, i < len → ∃ x : X, (x.ok w ∧ x.p.o.length ≤ 140737488351232 ∧ x.p.d.length ≤ 140737488351232) ∧ w.rangeAt b (off + i * 46) x.cells := by
      intro i hi
      obtain ⟨cs', h1, h2⟩ := hel i (by omega)
      rw [add_plain] at h1
      obtain ⟨_, hlen', hc⟩ := World.cells?_some h1
      obtain ⟨p, ov, dv, e1, e2, e3, e4⟩ := open_pktL hlen' h2 (fun k hk => hw k (by
        simp only [DataW.weights, Tryz.underlying32, List.mem_cons, List.mem_append]
        exact .inr (.inl (weightsAll_mem 28 _ (D i) (by simp; exact ⟨i, hi, rfl⟩) k hk))))
      subst e1
      refine ⟨⟨p, ov, dv⟩, ⟨e2, e3, e4⟩, fun j v hj => ?_⟩
      have hj' : j < 46 := by
        have := (List.getElem?_eq_some_iff.1 hj).1
        rw [← hlen']; exact this
      have hc' := hc j hj'
      rw [add_plain] at hc'
      rw [hc']; exact hj
    have hinh : Inhabited X := ⟨⟨zeroPk, .slice none 0 0, .slice none 0 0⟩⟩
    obtain ⟨F, hF⟩ := choose_lt (α := X) hall
    refine ⟨(List.range len).map F, by simp, by omega, ?_, .inr ⟨b, off, rfl, ?_⟩⟩
    · intro o ho
      obtain ⟨i, hi, rfl⟩ := List.mem_map.mp ho
      exact (hF i (by simpa using hi)).1
    · intro i o ho
      have hi : i < len := by
        rcases Nat.lt_or_ge i len with h | h
        · exact h
        · rw [List.getElem?_eq_none (by simpa using h)] at ho; simp at ho
      simp [hi] at ho
      subst ho
      exact (hF i hi).2
/-! A script: pieces of numbers. -/
end Go.Proofs.YtbkeilboneaejaaGreatDoor

namespace Go.Proofs.YtbkeilboneaejaaGreatDoor
open Go.ChangeShapes Go.WideShapes Go.ChangeAt Go.RowKit Go.Deep Num
set_option linter.unusedVariables false
set_option maxHeartbeats 8000000
set_option maxRecDepth 100000

namespace R
/-- Ints that can be read. -/
def Ints (w : World) (a : Option Addr) (n : Nat) : Prop := ∀ i, i < n → ∃ b o z, a = some ⟨b, o, none⟩ ∧ w.cell? ⟨b, o + i, none⟩ = some (.int .i64 z) ∧ i64ok z
theorem Ints.on {w w' : World} {a : Option Addr} {n : Nat} (h : Ints w a n) (hw : Away [] w w') : Ints w' a n := fun i hi => by
  obtain ⟨b, o, z, h1, h2, h3⟩ := h i hi
  exact ⟨b, o, z, h1, hw.cell (by simp) h2, h3⟩
theorem open_nums {H : Type} {enc : TypeId × Value → H} {w : World} {a : Option Addr} {len cap : Nat} {d : DataW H} {p : List MemPlace}
    (h : DataW.Trod enc Tryz.prog w 0 (fun _ => true) true 29 (.slice a len cap) d p) (hw : ∀ n ∈ d.weights Tryz.prog 29, n ≤ reachBytes) : Ints w a len ∧ len ≤ 140737488355328 := by
  obtain ⟨fuel, hf⟩ := h
  have k4 : Tryz.prog.cellsOf 3 = 1 := by kernel_rfl
  rcases open_ints Tryz.underlying29 Tryz.underlying3 k4 (by simpa [Value.cells] using hf) with ⟨hcs, hx⟩ | ⟨x, l, c', zs, hcs, _, hll, hm, hz, hx, hcz, hwz⟩
  · have hcs := (List.cons.inj hcs).1
    simp only [Value.slice.injEq] at hcs
    obtain ⟨rfl, rfl, rfl⟩ := hcs
    exact ⟨fun i hi => by omega, by omega⟩
  · have hcs := (List.cons.inj hcs).1
    have hD : d = _ := congrArg Prod.fst hx
    subst hD
    simp only [Value.slice.injEq] at hcs
    obtain ⟨rfl, rfl, rfl⟩ := hcs
    rw [if_pos rfl] at hz
    have hreach : 8 * ((zs.take len).length + (zs.drop len).length) ≤ 140737488351232 := by
      have := hw (((zs.take len).length + (zs.drop len).length) * 8) (by
        simp only [DataW.weights, Tryz.underlying29]
        simp [lits, show Tryz.prog.bytesOf 3 = 8 from by kernel_rfl])
      simp only [reachBytes] at this
      omega
    simp only [List.length_take, List.length_drop] at hreach
    refine ⟨fun i hi => ?_, by omega⟩
    obtain ⟨b, off, spot⟩ := x
    have hspot : spot = none := by simpa [Addr.add] using World.cell?_spot (hcz 0 (by omega))
    subst hspot
    have h1 := hcz i (by omega)
    rw [add_plain] at h1
    refine ⟨b, off, zs.getD i 0, rfl, h1, bounds_i64 (hwz _ ?_)⟩
    rw [List.getD_eq_getElem?_getD, List.getElem?_eq_getElem (by omega)]
    exact List.getElem_mem _
end R
end Go.Proofs.YtbkeilboneaejaaGreatDoor

namespace Go.Proofs.YtbkeilboneaejaaGreatDoor
open Go.ChangeShapes Go.WideShapes Go.ChangeAt Go.RowKit
open S6 (wp_region_cls quiet_val quiet_call quiet_ld ld3 ld4 ld5 ld25 ld26 load28_run load24m_run)
set_option linter.unusedVariables false
set_option linter.unusedSimpArgs false
set_option maxRecDepth 20000

set_option maxHeartbeats 4000000
theorem lkeyOf_c (p : Pk) (ov dv : Value) (w : World) (ha : Ad p) :
    Calls Tryz.prog 10 #[.agg (csP p ov dv)] w fun E w' => E = .returned (.agg (csK p)) ∧ Away [] w w' := by
  have HAD := Lib.hid ha
  clear ha
  go_enter Tryz.func10, Tryz.ntmps10
  go_wp2_with (refine wpList_box28 rfl _ rfl p _ _ rfl ?_; refine Hid.out ?_)
  refine Lib.hid ?_
  intro g1 w1 hg1 hb1 haw1
  have HB1 := Lib.hid hb1; have HA1 := Lib.hid haw1
  have hl1 := hb1.lt
  clear hb1 haw1
  go_wp2_with (refine wpList_alloc78 rfl rfl ?_; refine Hid.out ?_)
  refine Lib.hid ?_
  intro g2 w2 hg2 hb2 haw2
  have HB2 := Lib.hid hb2
  replace HB1 := Lib.hid (HB1.out.on haw2)
  replace HA1 := Lib.hid (HA1.out.next haw2 (by simp))
  have hs2 := haw2.size
  clear hb2 haw2
  have s0 := (HB1.out.cells HAD.out).v
  have s37 := (HB1.out.cells HAD.out).proto
  have s39 := (HB1.out.cells HAD.out).id
  go_wp2_with (first
    | (refine wpList_load24m rfl _ rfl g1 3 rfl p.sv p.sb (by exact HB1.out.srow) HAD.out.1 ?_)
    | (refine wpList_load24m rfl _ rfl g1 20 rfl p.dv p.db (by exact HB1.out.drow HAD.out) HAD.out.2 ?_)
    | (refine wpList_build78 rfl _ _ _ _ _ rfl p HAD.out rfl rfl rfl rfl rfl ?_)
    | (refine wpList_store78 rfl _ _ rfl g2 rfl p HAD.out rfl (by exact HB2.out) ?_; refine Hid.out ?_))
  refine Lib.hid ?_
  intro w3 hb3 haw3
  have HB3 := Lib.hid hb3
  have HA3 : Hid (Away [] w w3) := HA1.out.next haw3 (fun x hx => .inr (by simp at hx; omega))
  clear hb3 haw3 s0 s37 s39
  go_wp2_with fail
  exact bodyPost_ret (result78 rfl _ _ _ _ rfl HB3.out HAD.out) rfl ⟨rfl, HA3.out⟩
/-- The bytes of a text. -/
def bl (s : ByteArray) : List Int := s.data.toList.map (fun b => (b.toNat : Int))
theorem bl_bytes (s : ByteArray) : Bytes (bl s) := fun n hn => by
  obtain ⟨b, -, rfl⟩ := List.mem_map.1 hn
  have := b.toNat_lt
  omega
theorem bl_len (s : ByteArray) : (bl s).length = s.size := by simp [bl]
def pieceP (off : Int) (l : List Int) (more : Bool) : Pk := ⟨4, 0, 0, 4, [10, 0, 0, 1, 0, 0, 0, 0, 0, 0, 0, 0, 0, 0, 0, 0], 4, [10, 0, 0, 2, 0, 0, 0, 0, 0, 0, 0, 0, 0, 0, 0, 0], 17, 64, 7, false, more, false, off, [], l⟩
theorem piece_ad (off : Int) (l : List Int) (more : Bool) : Ad (pieceP off l more) := ⟨rfl, rfl⟩
theorem piece_wf {off : Int} {l : List Int} {more : Bool} (ho : i64ok off) (hl : Bytes l) (hn : l.length ≤ 140737488355328) : Wf (pieceP off l more) := by
  refine ⟨?_, ?_, ?_, ?_, rfl, ?_, ?_, rfl, ?_, ?_, ?_, ?_, ?_, ho, Bytes.nil, by simp [pieceP], hl, hn⟩ <;> first | (unfold i64ok pieceP; simp) | (show Bytes [10, 0, 0, 1, 0, 0, 0, 0, 0, 0, 0, 0, 0, 0, 0, 0]; intro n hn; simp at hn; omega) | (show Bytes [10, 0, 0, 2, 0, 0, 0, 0, 0, 0, 0, 0, 0, 0, 0, 0]; intro n hn; simp at hn; omega) | (simp [pieceP])
theorem run_bs (w : World) (s : ByteArray) (hs : s.size ≤ 65535) : ∃ c w', (convert 9 26 (.string s)).run Tryz.prog w = .ok (.slice (some ⟨w.heap.size, 0, none⟩) s.size c) w' ∧ Sl w' (.slice (some ⟨w.heap.size, 0, none⟩) s.size c) (bl s) ∧ Away [] w w' := by
  refine ⟨_, _, run_bytes_of_string w 9 26 5 s Tryz.underlying9 Tryz.underlying26 Tryz.underlying5, ⟨_, _, by rw [bl_len], by rw [bl_len]; exact grownCap_ge w s.size 0 5, by simp, ⟨by rw [bl_len]; omega, bl_bytes s, .inr ⟨w.heap.size, 0, rfl, fun i hi => ?_⟩⟩⟩, (Away.refl [] w).drew.alloc _⟩
  have hb : (w.drew.alloc (.cells (bytesRow s (grownCap w s.size 0 5)) 5 ((bytesRow s (grownCap w s.size 0 5)).size, (bytesRow s (grownCap w s.size 0 5)).size + 1))).heap[w.heap.size]? = some (.cells (bytesRow s (grownCap w s.size 0 5)) 5 ((bytesRow s (grownCap w s.size 0 5)).size, (bytesRow s (grownCap w s.size 0 5)).size + 1)) := block_new w.drew _
  rw [bl_len] at hi
  rw [cell_of_row _ _ (0 + i) _ 5 _ hb, Nat.zero_add]
  have hsz : s.data.size = s.size := rfl
  have e1 : (bytesRow s (grownCap w s.size 0 5))[i]? = some (.int .u8 (s.data[i]'hi).toNat) := by
    unfold bytesRow
    rw [Array.getElem?_append_left (by simpa using hi)]
    simp
    exact ⟨_, Array.getElem?_eq_getElem hi, rfl⟩
  rw [e1]
  have e2 : (bl s)[i]? = some ((s.data[i]'hi).toNat : Int) := by
    unfold bl
    simp
    exact ⟨_, Array.getElem?_eq_getElem hi, rfl⟩
  rw [e2]
  rfl
def a1 : List Int := [10, 0, 0, 1, 0, 0, 0, 0, 0, 0, 0, 0, 0, 0, 0, 0]
def a2 : List Int := [10, 0, 0, 2, 0, 0, 0, 0, 0, 0, 0, 0, 0, 0, 0, 0]
theorem b24a (w : World) : (Instr.build 22 #[(0, .int .u8 10), (1, .int .u8 0), (2, .int .u8 0), (3, .int .u8 1)]).run Tryz.prog w = .ok (arr .u8 a1) w := by kernel_rfl
theorem b24b (w : World) : (Instr.build 22 #[(0, .int .u8 10), (1, .int .u8 0), (2, .int .u8 0), (3, .int .u8 2)]).run Tryz.prog w = .ok (arr .u8 a2) w := by kernel_rfl
theorem b26a (w : World) : (Instr.build 24 #[(0, .int .i64 4), (1, arr .u8 a1)]).run Tryz.prog w = .ok (.agg (csA 4 a1)) w := by kernel_rfl
theorem b26b (w : World) : (Instr.build 24 #[(0, .int .i64 4), (1, arr .u8 a2)]).run Tryz.prog w = .ok (.agg (csA 4 a2)) w := by kernel_rfl
theorem b36p (off : Int) (dv : Value) (l : List Int) (more : Bool) (hd : dv.oneCell' = true) (w : World) :
    (Instr.build 28 #[(0, .int .i64 4), (3, .agg (csA 4 a1)), (4, .agg (csA 4 a2)), (5, .int .i64 17), (6, .int .i64 64), (7, .int .u32 7), (11, .int .i64 off), (13, dv), (9, .bool more)]).run Tryz.prog w = .ok (.agg (csP (pieceP off l more) (.slice none 0 0) dv)) w := by
  cases dv <;> first | (simp [Value.oneCell'] at hd; done) | kernel_rfl
theorem wpList_buildR {ops : Array Oper} {rest : List Oper} {o : Oper} {a : Act} {w : World} {Q : Exit → Act → World → Prop} (hw : Region.wanted o (yielded ops a.tmps) = true) (ty : TypeId) (parts : Array (Nat × Operand)) (ho : o.op = .build ty parts) (vs : Array (Nat × Value)) (hvs : (parts.map fun x => (x.1, a.eval x.2)) = vs) (v : Value)
    (hr : ∀ w, (Instr.build ty vs).run Tryz.prog w = .ok v w) (h : wpList Tryz.prog ops Q rest (a.put o.dst v) w) : wpList Tryz.prog ops Q (o :: rest) a w :=
  BigFrame.wpList_want hw fun K hK => by
    unfold Oper.wp execOp
    simp only [ho, hvs, hr w, Sem.run_bind, Result.andThen_ok, Sem.run_pure]
    exact hK _ _ h
theorem wpList_convR {ops : Array Oper} {rest : List Oper} {o : Oper} {a : Act} {w w' : World} {Q : Exit → Act → World → Prop} (hw : Region.wanted o (yielded ops a.tmps) = true) (x : Operand) (s t : TypeId) (ho : o.op = .convert s t x) (u v : Value) (hx : a.eval x = u)
    (hr : (convert s t u).run Tryz.prog w = .ok v w') (h : wpList Tryz.prog ops Q rest (a.put o.dst v) w') : wpList Tryz.prog ops Q (o :: rest) a w :=
  BigFrame.wpList_want hw fun K hK => by
    unfold Oper.wp execOp
    simp only [ho, hx, hr, Sem.run_bind, Result.andThen_ok, Sem.run_pure]
    exact hK _ _ h
set_option maxHeartbeats 4000000 in
theorem piece_c (w : World) (off : Int) (t : ByteArray) (more : Bool) (ht : t.size ≤ 65535) (ho : i64ok off) :
    Calls Tryz.prog 34 #[.int .i64 off, .string t, .bool more] w fun E w' => ∃ dv, E = .returned (.agg (csP (pieceP off (bl t) more) (.slice none 0 0) dv)) ∧ Pkt w' (pieceP off (bl t) more) (.slice none 0 0) dv ∧ (∀ k, dv.ownBlock = some k → w.heap.size ≤ k) ∧ Away [] w w' := by
  have HT := Lib.hid ht
  have HO := Lib.hid ho
  have HAD : Hid (Ad (pieceP off (bl t) more)) := piece_ad _ _ _
  have HWF : Hid (Wf (pieceP off (bl t) more)) := piece_wf HO.out (bl_bytes t) (by rw [bl_len]; have := HT.out; omega)
  have HQO : Hid ((pieceP off (bl t) more).o = []) := rfl
  have HQD : Hid ((pieceP off (bl t) more).d = bl t) := rfl
  have HB0 : Hid (∀ dv : Value, dv.oneCell' = true → ∀ w, (Instr.build 28 #[(0, .int .i64 4), (3, .agg (csA 4 a1)), (4, .agg (csA 4 a2)), (5, .int .i64 17), (6, .int .i64 64), (7, .int .u32 7), (11, .int .i64 off), (13, dv), (9, .bool more)]).run Tryz.prog w = .ok (.agg (csP (pieceP off (bl t) more) (.slice none 0 0) dv)) w) := fun dv hd => b36p off dv (bl t) more hd
  generalize pieceP off (bl t) more = q at *
  clear ht ho
  go_enter Tryz.func34, Tryz.ntmps34
  go_wp2_with (refine wpList_alloc28 rfl rfl ?_; refine Hid.out ?_)
  refine Lib.hid ?_
  intro g6 w6 hg6 hb6 haw6
  have HB6 := Lib.hid hb6
  have HA6 := Lib.hid haw6
  have hl6 := hb6.lt
  clear hb6 haw6
  obtain ⟨c, w7, hrun, hsl, haw7⟩ := run_bs w6 t HT.out
  have HSL := Lib.hid hsl
  have HA7 := Lib.hid haw7
  have HB7 := Lib.hid (HB6.out.on haw7)
  have hbp := HB0.out (.slice (some ⟨w6.heap.size, 0, none⟩) t.size c) rfl
  have h1 := b24a
  have h2 := b26a
  have h3 := b24b
  have h4 := b26b
  have HBP := Lib.hid hbp
  have H1 := Lib.hid h1
  have H2 := Lib.hid h2
  have H3 := Lib.hid h3
  have H4 := Lib.hid h4
  have HRUN := Lib.hid hrun
  clear hbp h1 h2 h3 h4 hrun hsl haw7
  go_wp2_with (refine wpList_buildR rfl 22 _ rfl #[(0, .int .u8 10), (1, .int .u8 0), (2, .int .u8 0), (3, .int .u8 1)] (by simp only [List.map_toArray, List.map_cons, List.map_nil]; rfl) _ H1.out ?_; refine Hid.out ?_)
  refine Lib.hid ?_
  go_wp2_with (refine wpList_buildR rfl 24 _ rfl #[(0, .int .i64 4), (1, arr .u8 a1)] (by simp only [List.map_toArray, List.map_cons, List.map_nil]; rfl) _ H2.out ?_; refine Hid.out ?_)
  refine Lib.hid ?_
  go_wp2_with (refine wpList_buildR rfl 22 _ rfl #[(0, .int .u8 10), (1, .int .u8 0), (2, .int .u8 0), (3, .int .u8 2)] (by simp only [List.map_toArray, List.map_cons, List.map_nil]; rfl) _ H3.out ?_; refine Hid.out ?_)
  refine Lib.hid ?_
  go_wp2_with (refine wpList_buildR rfl 24 _ rfl #[(0, .int .i64 4), (1, arr .u8 a2)] (by simp only [List.map_toArray, List.map_cons, List.map_nil]; rfl) _ H4.out ?_; refine Hid.out ?_)
  refine Lib.hid ?_
  go_wp2_with (refine wpList_convR rfl _ 9 26 rfl _ _ rfl HRUN.out ?_; refine Hid.out ?_)
  refine Lib.hid ?_
  go_wp2_with (refine wpList_buildR rfl 28 _ rfl #[(0, .int .i64 4), (3, .agg (csA 4 a1)), (4, .agg (csA 4 a2)), (5, .int .i64 17), (6, .int .i64 64), (7, .int .u32 7), (11, .int .i64 off), (13, .slice (some ⟨w6.heap.size, 0, none⟩) t.size c), (9, .bool more)] (by simp only [List.map_toArray, List.map_cons, List.map_nil]; rfl) _ HBP.out ?_; refine Hid.out ?_)
  refine Lib.hid ?_
  go_wp2_with (refine wpList_store28 rfl _ _ rfl _ rfl q (.slice none 0 0) (.slice (some ⟨w6.heap.size, 0, none⟩) t.size c) rfl zeroPk (.slice none 0 0) (.slice none 0 0) (by exact HB7.out) HAD.out ⟨rfl, rfl⟩ rfl rfl ?_; refine Hid.out ?_)
  refine Lib.hid ?_
  intro w8 hb8 haw8
  have HB8 := Lib.hid hb8
  have hsz := HA7.out.size
  have HA8 : Hid (Away [] w w8) := (HA6.out.trans HA7.out).next haw8 (fun x hx => .inr (by simp at hx; omega))
  have HPK : Hid (Pkt w8 q (.slice none 0 0) (.slice (some ⟨w6.heap.size, 0, none⟩) t.size c)) := by
    refine ⟨HWF.out, by rw [HQO.out]; exact Sl.nil _, ?_⟩
    rw [HQD.out]
    exact HSL.out.away haw8 (fun _ k hk => by simp [Value.ownBlock] at hk; simp; omega)
  have HZ6 := Lib.hid HA6.out.size
  clear hb8 haw8
  go_wp2_with fail
  exact bodyPost_ret (result28 rfl _ _ _ _ _ _ rfl HB8.out HAD.out) rfl ⟨_, rfl, HPK.out, fun k hk => by (have h6 := HZ6.out); simp [Value.ownBlock] at hk; omega, HA8.out⟩
end Go.Proofs.YtbkeilboneaejaaGreatDoor

namespace Go.Proofs.YtbkeilboneaejaaGreatDoor
open Go.ChangeShapes Go.WideShapes Go.ChangeAt Go.RowKit
open S6 (wp_region_cls quiet_val quiet_call quiet_ld ld3 ld4 ld5 ld25 ld26 load28_run load24m_run)
set_option linter.unusedVariables false
set_option linter.unusedSimpArgs false
set_option maxRecDepth 20000

def kZ : Pk := pieceP 0 (bl { data := #[] }) false
def pA : Pk := pieceP 8 (bl { data := #[105, 106, 107, 108, 109, 110, 111, 112] }) true
def pB : Pk := pieceP 16 (bl { data := #[113] }) false
def pC : Pk := pieceP 0 (bl { data := #[97, 98, 99, 100, 101, 102, 103, 104] }) true
def s0 : Es := newS kZ 5
def s1 : Es := (putS s0 pA).2
def s2 : Es := (putS s1 pB).2
def s3 : Es := (putS s2 pC).2
def s4 : Es := (putS s3 pC).2
theorem t1 : (putS s0 pA).1 = 5 := by kernel_rfl
theorem t2 : (putS s1 pB).1 = 5 := by kernel_rfl
theorem t3 : (putS s2 pC).1 = 6 := by kernel_rfl
theorem t4 : (putS s3 pC).1 = 3 := by kernel_rfl
theorem h0 : holesN s0 = 1 := by kernel_rfl
theorem h1 : holesN s1 = 2 := by kernel_rfl
theorem b3 : s3.h = 17 := by kernel_rfl
theorem w3t : (wholeP s3).2 = true := by kernel_rfl
theorem w3d : (wholeP s3).1.d = bl { data := #[97, 98, 99, 100, 101, 102, 103, 104, 105, 106, 107, 108, 109, 110, 111, 112, 113] } := by kernel_rfl
theorem w3s : bstr (bl { data := #[97, 98, 99, 100, 101, 102, 103, 104, 105, 106, 107, 108, 109, 110, 111, 112, 113] }) = { data := #[97, 98, 99, 100, 101, 102, 103, 104, 105, 106, 107, 108, 109, 110, 111, 112, 113] } := by kernel_rfl
theorem w3a : Ad (wholeP s3).1 := ⟨by kernel_rfl, by kernel_rfl⟩
theorem ey_new {w : World} {g : Nat} {k : Pk} {t : Int} {fp : List Nat} (h : Ent w g (newS k t) fp) : Ey w g (newS k t) fp := ⟨h, fun _ => ⟨_, iv_new k t⟩⟩
theorem outs_new {W : World} {g : Nat} {s : Es} {fp : List Nat} {p : Pk} {dv : Value} (h : Ey W g s fp) (ho : p.o = []) (hd : ∀ k, dv.ownBlock = some k → W.heap.size ≤ k) : Outs p (.slice none 0 0) dv fp :=
  ⟨fun e => absurd ho e, fun _ k hk hm => by have h1 := h.ent.lt k hm; have h2 := hd k hk; omega⟩
set_option maxHeartbeats 8000000 in
theorem alive_c (w : World) (hg : Glob w) : Calls Tryz.prog 6 #[] w fun E w' => E = .returned (.bool true) ∧ Away [] w w' := by
  have HG := Lib.hid hg
  have hpos := hg.pos
  clear hg
  go_enter Tryz.func6, Tryz.ntmps6
  go_wp2_with fail
  refine (piece_c w 0 _ false (by simp [ByteArray.size]) (by unfold i64ok; omega)).mono ?_
  rintro E wa ⟨dva, rfl, -, -, hawa⟩
  have HA := Lib.hid hawa
  have e0 : pieceP 0 (bl { data := #[] }) false = kZ := rfl
  rw [e0]
  clear hawa e0
  have HKZ : Hid (Ad kZ) := piece_ad _ _ _
  go_wp2_with fail
  refine (lkeyOf_c kZ _ _ wa HKZ.out).mono ?_
  rintro E wb ⟨rfl, hawb⟩
  replace HA := Lib.hid (HA.out.trans hawb)
  clear hawb
  go_wp2_with fail
  refine (new_c wb kZ 5 HKZ.out).mono ?_
  rintro E wc ⟨g, fp, rfl, hent, hfp, hawc⟩
  have HY : Hid (Ey wc g s0 fp) := ey_new hent
  have HF : Hid (∀ x ∈ fp, w.heap.size ≤ x) := fun x hx => Nat.le_trans HA.out.size (hfp x hx)
  replace HA := Lib.hid (HA.out.trans hawc)
  clear hent hfp hawc
  have K := Lib.hid (eholes_c HY.out.ent)
  rw [h0] at K
  go_wp2_with fail
  refine K.out.mono ?_
  rintro E wd ⟨rfl, haw⟩
  replace HY := Lib.hid (HY.out.on haw)
  replace HA := Lib.hid (HA.out.trans haw)
  clear haw K
  have K := Lib.hid (born_c HY.out.ent)
  rw [show s0.tb = 5 from rfl] at K
  go_wp2_with fail
  refine K.out.mono ?_
  rintro E wd ⟨rfl, rfl⟩
  clear K
  go_wp2_with fail
  refine (piece_c wd 8 _ true (by simp [ByteArray.size]) (by unfold i64ok; omega)).mono ?_
  rintro E x1 ⟨dv1, rfl, hpk, hnew, haw⟩
  have e1 : pieceP 8 (bl { data := #[105, 106, 107, 108, 109, 110, 111, 112] }) true = pA := rfl
  rw [e1] at hpk
  rw [e1]
  have KP := Lib.hid (eput_c (HY.out.on haw) pA _ dv1 hpk (HG.out.on (HA.out.trans haw)) (outs_new HY.out rfl hnew) (fun hm => by have := HF.out 0 hm; omega))
  replace HA := Lib.hid (HA.out.trans haw)
  have HZ1 : Hid (w.heap.size ≤ x1.heap.size) := HA.out.size
  clear hpk hnew haw e1 HY
  go_wp2_with fail
  refine KP.out.mono ?_
  rintro E y1 ⟨rfl, fp1, hy, hfp, haw⟩
  rw [t1]
  have HY : Hid (Ey y1 g s1 fp1) := hy
  replace HA : Hid (Away [] w y1) := HA.out.next haw (fun z hz => .inr (HF.out z hz))
  replace HF : Hid (∀ z ∈ fp1, w.heap.size ≤ z) := fun z hz => by
    rcases hfp z hz with h | h
    · exact HF.out z h
    · have := HZ1.out; omega
  clear hy hfp haw KP
  have K := Lib.hid (eholes_c HY.out.ent)
  rw [h1] at K
  go_wp2_with fail
  refine K.out.mono ?_
  rintro E we ⟨rfl, haw⟩
  replace HY := Lib.hid (HY.out.on haw)
  replace HA := Lib.hid (HA.out.trans haw)
  clear haw K
  go_wp2_with fail
  refine (piece_c we 16 _ false (by simp [ByteArray.size]) (by unfold i64ok; omega)).mono ?_
  rintro E x2 ⟨dv2, rfl, hpk, hnew, haw⟩
  have e2 : pieceP 16 (bl { data := #[113] }) false = pB := rfl
  rw [e2] at hpk
  rw [e2]
  have KP := Lib.hid (eput_c (HY.out.on haw) pB _ dv2 hpk (HG.out.on (HA.out.trans haw)) (outs_new HY.out rfl hnew) (fun hm => by have := HF.out 0 hm; omega))
  replace HA := Lib.hid (HA.out.trans haw)
  have HZ2 : Hid (w.heap.size ≤ x2.heap.size) := HA.out.size
  clear hpk hnew haw e2 HY
  go_wp2_with fail
  refine KP.out.mono ?_
  rintro E y2 ⟨rfl, fp2, hy, hfp, haw⟩
  rw [t2]
  have HY : Hid (Ey y2 g s2 fp2) := hy
  replace HA : Hid (Away [] w y2) := HA.out.next haw (fun z hz => .inr (HF.out z hz))
  replace HF : Hid (∀ z ∈ fp2, w.heap.size ≤ z) := fun z hz => by
    rcases hfp z hz with h | h
    · exact HF.out z h
    · have := HZ2.out; omega
  clear hy hfp haw KP
  go_wp2_with fail
  refine (piece_c y2 0 _ true (by simp [ByteArray.size]) (by unfold i64ok; omega)).mono ?_
  rintro E x3 ⟨dv3, rfl, hpk, hnew, haw⟩
  have e3 : pieceP 0 (bl { data := #[97, 98, 99, 100, 101, 102, 103, 104] }) true = pC := rfl
  rw [e3] at hpk
  rw [e3]
  have KP := Lib.hid (eput_c (HY.out.on haw) pC _ dv3 hpk (HG.out.on (HA.out.trans haw)) (outs_new HY.out rfl hnew) (fun hm => by have := HF.out 0 hm; omega))
  replace HA := Lib.hid (HA.out.trans haw)
  have HZ3 : Hid (w.heap.size ≤ x3.heap.size) := HA.out.size
  clear hpk hnew haw e3 HY
  go_wp2_with fail
  refine KP.out.mono ?_
  rintro E y3 ⟨rfl, fp3, hy, hfp, haw⟩
  rw [t3]
  have HY : Hid (Ey y3 g s3 fp3) := hy
  replace HA : Hid (Away [] w y3) := HA.out.next haw (fun z hz => .inr (HF.out z hz))
  replace HF : Hid (∀ z ∈ fp3, w.heap.size ≤ z) := fun z hz => by
    rcases hfp z hz with h | h
    · exact HF.out z h
    · have := HZ3.out; omega
  clear hy hfp haw KP
  have K := Lib.hid (bytes_c HY.out.ent)
  rw [b3] at K
  go_wp2_with fail
  refine K.out.mono ?_
  rintro E y3 ⟨rfl, rfl⟩
  clear K
  have K := Lib.hid (ewhole_c HY.out)
  go_wp2_with fail
  refine K.out.mono ?_
  rintro E y4 ⟨wo, wd', rfl, hm, haw⟩
  rw [w3t]
  have HM := Lib.hid hm
  replace HY := Lib.hid (HY.out.on haw)
  replace HA := Lib.hid (HA.out.trans haw)
  have HO1 := Lib.hid hm.o.one
  have HD1 := Lib.hid hm.d.one
  have HWA := Lib.hid w3a
  have HWD := Lib.hid w3d
  have hm2 : Hid (Owns y4 wd' (bl { data := #[97, 98, 99, 100, 101, 102, 103, 104, 105, 106, 107, 108, 109, 110, 111, 112, 113] })) := by show Owns _ _ _; rw [← w3d]; exact hm.d
  generalize (wholeP s3).1 = q at *
  clear hm haw K
  go_wp2_with (refine wpList_new28 rfl rfl rfl _ _ rfl q wo wd' (fun g => rfl) (fun g => rfl) HWA.out HO1.out HD1.out ?_; refine Hid.out ?_)
  refine Lib.hid ?_
  intro g2 y5 hg2 hb2 haw2
  have HB2 := Lib.hid hb2
  replace HY := Lib.hid (HY.out.on haw2)
  replace HA := Lib.hid (HA.out.trans haw2)
  have c45 := (hb2.cells HWA.out).d
  obtain ⟨ca, cc, hce, -, hcn, hcr, -, -⟩ := (hm2.out.on haw2).row (by simp [bl]) (bl_bytes _)
  subst hce
  have hconv := conv_any y5 ca _ cc hcr hcn
  rw [w3s] at hconv
  clear hb2 haw2 hcr hcn
  go_wp2_with fail
  refine (piece_c y5 0 _ true (by simp [ByteArray.size]) (by unfold i64ok; omega)).mono ?_
  rintro E x4 ⟨dv4, rfl, hpk, hnew, haw⟩
  have e4 : pieceP 0 (bl { data := #[97, 98, 99, 100, 101, 102, 103, 104] }) true = pC := rfl
  rw [e4] at hpk
  rw [e4]
  have KP := Lib.hid (eput_c (HY.out.on haw) pC _ dv4 hpk (HG.out.on (HA.out.trans haw)) (outs_new HY.out rfl hnew) (fun hm => by have := HF.out 0 hm; omega))
  replace HA := Lib.hid (HA.out.trans haw)
  have HZ4 : Hid (w.heap.size ≤ x4.heap.size) := HA.out.size
  clear hpk hnew haw e4 HY
  go_wp2_with fail
  refine KP.out.mono ?_
  rintro E y4 ⟨rfl, fp4, hy, hfp, haw⟩
  rw [t4]
  have HY : Hid (Ey y4 g s4 fp4) := hy
  replace HA : Hid (Away [] w y4) := HA.out.next haw (fun z hz => .inr (HF.out z hz))
  replace HF : Hid (∀ z ∈ fp4, w.heap.size ≤ z) := fun z hz => by
    rcases hfp z hz with h | h
    · exact HF.out z h
    · have := HZ4.out; omega
  clear hy hfp haw KP
  go_wp2_with fail
  go_ret
  exact ⟨rfl, HA.out⟩
end Go.Proofs.YtbkeilboneaejaaGreatDoor
