/-
  What every row shares: what came in.
-/
import Derived.Test.YtoifolmcdkfniabGreatDoorDgZ
import Derived.Test.YtoifolmcdkfniabGreatDoorRows
import Derived.Test.YtoifolmcdkfniabGreatDoorCards
import Derived.Test.YtoifolmcdkfniabGreatDoorTie
import Derived.Lib.LaidTab
import Derived.LaidSub
import Derived.HandedShaped
import Derived.Deep.DeepHandedRow
import Derived.Deep.CondSized
import Derived.Deep.Slices
import Derived.ChangeOld
import Derived.Carry
namespace Go.Proofs.YtoifolmcdkfniabGreatDoor
open Go.ChangeShapes Go.WideShapes Go.ChangeAt Go.RowKit Go.Deep
set_option linter.unusedVariables false
set_option linter.unusedSimpArgs false
set_option maxRecDepth 100000

theorem ownKn : ownKnob Tryz.prog.godebug = none := by kernel_rfl
theorem laidOut : laidOutB Tryz.prog = true := by kernel_rfl
theorem cells3 : Tryz.prog.cellsOf 3 = 1 := by kernel_rfl
theorem cellsRt : Tryz.prog.cellsOf 39 = 19 := by kernel_rfl
theorem cellsAd : Tryz.prog.cellsOf 37 = 17 := by kernel_rfl
def nOf : Value → Int
  | .int _ n => n
  | _ => 0
/-- An address among a list's cells. -/
theorem open_adrL {H : Type} {enc : TypeId × Value → H} {W : World} {base' : Nat} {spare : Nat → Bool} {held : Bool} {fuel : Nat} {cs : List Value} {d : DataW H} {p : List MemPlace} (hsz : cs.length = 17) (hf : DataW.trod enc Tryz.prog W base' spare held fuel 37 cs = some (d, p)) :
    ∃ (v : Int) (l : List Int), cs = cellsA v l ∧ (l.length = 16 ∧ Byt l) ∧ (Lit.int .i64 v).wf = true := by
  obtain ⟨xs, n, _, _, hlen, hxs, hfs⟩ := DataW.trod_struct Tryz.underlying37 hf
  have h0 : DataW.trod enc Tryz.prog W base' spare held n 3 ((cs.drop 0).take (Tryz.prog.cellsOf 3)) = xs[0]? := hfs 0 _ rfl
  have h1 : DataW.trod enc Tryz.prog W base' spare held n 35 ((cs.drop 1).take (Tryz.prog.cellsOf 35)) = xs[1]? := hfs 1 _ rfl
  have hx2 : xs.length = 2 := by simpa using hxs
  rw [List.getElem?_eq_getElem (by omega)] at h0 h1
  obtain ⟨v, hv0, _, hvw⟩ := DataW.trod_int Tryz.underlying3 h0
  obtain ⟨ys, m, _, _, hl1, hys, hel⟩ := DataW.trod_array Tryz.underlying35 h1
  have hb : ∀ i, i < 16 → ∃ k : Int, cs[1 + i]? = some (.int .u8 k) ∧ (Lit.int .u8 k).wf = true := by
    intro i hi
    have h2 := hel i hi
    rw [List.getElem?_eq_getElem (by omega)] at h2
    obtain ⟨k, hk, _, hkw⟩ := DataW.trod_int Tryz.underlying5 h2
    refine ⟨k, ?_, hkw⟩
    rw [cells5, Nat.mul_one] at hk
    have h3 : ((List.take (Tryz.prog.cellsOf 35) (List.drop 1 cs)).drop i)[0]? = some (.int .u8 k) := by
      have := congrArg (fun l => l[0]?) hk
      simpa using this
    rw [cells22] at h3
    simp only [List.getElem?_drop, List.getElem?_take, Nat.add_zero] at h3
    rw [if_pos hi] at h3
    exact h3
  have hmap : ((cs.drop 1).map nOf).map (Value.int .u8) = cs.drop 1 := by
    rw [List.map_map]
    apply List.ext_getElem?
    intro i
    rw [List.getElem?_map, List.getElem?_drop]
    by_cases hi : i < 16
    · obtain ⟨k, hk, _⟩ := hb i hi
      rw [hk]; rfl
    · rw [List.getElem?_eq_none (by omega)]; rfl
  refine ⟨v, (cs.drop 1).map nOf, ?_, ⟨by simp; omega, ?_⟩, hvw⟩
  · show cs = Value.int .i64 v :: ((cs.drop 1).map nOf).map (Value.int .u8)
    rw [hmap]
    have h3 : cs[0]? = some (.int .i64 v) := by
      have := congrArg (fun l => l[0]?) hv0
      rw [cells3] at this
      simpa using this
    cases hcs : cs with
    | nil => rw [hcs] at h3; simp at h3
    | cons a r => rw [hcs] at h3; simp at h3; rw [h3]; rfl
  · intro y hy
    simp only [List.mem_map] at hy
    obtain ⟨z, hz, rfl⟩ := hy
    obtain ⟨i, hi⟩ := List.mem_iff_getElem?.1 hz
    rw [List.getElem?_drop] at hi
    have hi16 : i < 16 := by
      have := (List.getElem?_eq_some_iff.1 hi).1
      omega
    obtain ⟨k, hk, hkw⟩ := hb i hi16
    rw [hk] at hi
    simp only [Option.some.injEq] at hi
    subst hi
    have h5 : IntKind.u8.min ≤ k ∧ k ≤ IntKind.u8.max := by simpa [Lit.wf] using hkw
    exact ⟨h5.1, h5.2⟩
theorem open_addr {H : Type} {enc : TypeId × Value → H} {W : World} {base base' : Nat} {spare : Nat → Bool} {held : Bool} {x : Value} {d : DataW H} {p : List MemPlace} (hv : Value.okWide Tryz.prog W .any base 37 x) (h : DataW.Trod enc Tryz.prog W base' spare held 37 x d p) :
    ∃ (v : Int) (l : List Int), x = .agg (csA v l) ∧ (l.length = 16 ∧ Byt l) ∧ (Lit.int .i64 v).wf = true := by
  obtain ⟨cs, rfl, hsz⟩ := okWide_struct Tryz.underlying37 hv
  rw [cells24] at hsz
  obtain ⟨fuel, hf⟩ := h
  simp only [Value.cells] at hf
  obtain ⟨v, l, h1, h2, h3⟩ := open_adrL (by simpa using hsz) hf
  refine ⟨v, l, ?_, h2, h3⟩
  congr 1
  apply Array.ext'
  exact h1
theorem bounds_i64' {n : Int} (h : (Lit.int .i64 n).wf = true) : -9223372036854775808 ≤ n ∧ n ≤ 9223372036854775807 := by
  have h5 : IntKind.i64.min ≤ n ∧ n ≤ IntKind.i64.max := by simpa [Lit.wf] using h
  exact h5
theorem open_rt {H : Type} {enc : TypeId × Value → H} {w : World} {base' : Nat} {spare : Nat → Bool} {held : Bool} {fuel : Nat} {cs : List Value} {D : DataW H} {Pl : List MemPlace} (hsz : cs.length = 19)
    (h : DataW.trod enc Tryz.prog w base' spare held fuel 39 cs = some (D, Pl)) : ∃ x : Rt, Okr x ∧ cs = listD x := by
  obtain ⟨xs, n, _, hx, hl, hxs, hfs⟩ := DataW.trod_struct Tryz.underlying39 h
  have hx4 : xs.length = 3 := by simpa using hxs
  have h0 : DataW.trod enc Tryz.prog w base' spare held n 37 ((cs.drop 0).take (Tryz.prog.cellsOf 37)) = xs[0]? := hfs 0 _ rfl
  have h1 : DataW.trod enc Tryz.prog w base' spare held n 3 ((cs.drop 17).take (Tryz.prog.cellsOf 3)) = xs[1]? := hfs 1 _ rfl
  have h2 : DataW.trod enc Tryz.prog w base' spare held n 3 ((cs.drop 18).take (Tryz.prog.cellsOf 3)) = xs[2]? := hfs 2 _ rfl
  rw [List.getElem?_eq_getElem (by omega)] at h0 h1 h2
  obtain ⟨a, ha, _, wa⟩ := DataW.trod_int Tryz.underlying3 h1
  obtain ⟨b, hb, _, wb⟩ := DataW.trod_int Tryz.underlying3 h2
  rw [cellsAd] at h0
  obtain ⟨v, l, he, hby, wv⟩ := open_adrL (by simp; omega) h0
  rw [cells3] at ha hb
  refine ⟨⟨v, l, a, b⟩, hby, ?_⟩
  have hd : cs.drop 17 = [.int .i64 a, .int .i64 b] := by
    have hl2 : (cs.drop 17).length = 2 := by simp; omega
    rcases hc : cs.drop 17 with _ | ⟨c0, _ | ⟨c1, _ | ⟨c2, r⟩⟩⟩
    · rw [hc] at hl2; simp at hl2
    · rw [hc] at hl2; simp at hl2
    · rw [hc] at ha
      have hb' : (cs.drop 17).drop 1 = cs.drop 18 := by simp
      rw [← hb', hc] at hb
      simp at ha hb
      rw [ha, hb]
    · rw [hc] at hl2; simp at hl2
  show cs = cellsA v l ++ [_, _]
  rw [← he, ← hd]
  simp
theorem open_route {H : Type} {enc : TypeId × Value → H} {W : World} {base base' : Nat} {spare : Nat → Bool} {held : Bool} {x : Value} {d : DataW H} {p : List MemPlace} (hv : Value.okWide Tryz.prog W .any base 39 x) (h : DataW.Trod enc Tryz.prog W base' spare held 39 x d p) :
    ∃ r : Rt, x = .agg (csD r) ∧ Okr r := by
  obtain ⟨cs, rfl, hsz⟩ := okWide_struct Tryz.underlying39 hv
  rw [cellsRt] at hsz
  obtain ⟨fuel, hf⟩ := h
  simp only [Value.cells] at hf
  obtain ⟨r, h1, h2⟩ := open_rt (by simpa using hsz) hf
  refine ⟨r, ?_, h1⟩
  congr 1
  apply Array.ext'
  exact h2
theorem open_routes {H : Type} {enc : TypeId × Value → H} {w : World} {a : Option Addr} {len cap : Nat} {d : DataW H} {p : List MemPlace}
    (h : DataW.Trod enc Tryz.prog w 0 (fun _ => true) true 22 (.slice a len cap) d p) (hw : ∀ n ∈ d.weights Tryz.prog 22, n ≤ reachBytes) (hlt : ∀ x ∈ p, x.block < w.heap.size) :
    ∃ l : List Rt, l.length = len ∧ Rd w (.slice a len cap) l ∧ l.length ≤ 3518437208780 := by
  obtain ⟨fuel, hf⟩ := h
  have h : DataW.trod enc Tryz.prog w 0 (fun _ => true) true fuel 22 [.slice a len cap] = some (d, p) := by simpa [Value.cells] using hf
  rcases open_slice Tryz.underlying22 h with ⟨hcs, hx⟩ | ⟨x, l, c, m, n, D, Pl, hcs, hb, hl, hm, hmm, hx, hel⟩
  · simp only [List.cons.injEq, Value.slice.injEq, and_true] at hcs
    obtain ⟨rfl, rfl, rfl⟩ := hcs
    exact ⟨[], rfl, ⟨by simp, _, _, rfl, by simp, .inl rfl⟩, by simp⟩
  · simp only [List.cons.injEq, Value.slice.injEq, and_true] at hcs
    obtain ⟨rfl, rfl, rfl⟩ := hcs
    simp only [Prod.mk.injEq] at hx
    obtain ⟨rfl, hpl⟩ := hx
    simp only [if_true] at hmm
    subst hmm
    rw [cellsRt] at hel
    have hreach : m * 40 ≤ 140737488351232 := by
      have := hw ((((List.range len).map D).length + ((List.range (m - len)).map fun j => D (len + j)).length) * Tryz.prog.bytesOf 39) (by simp [DataW.weights, Tryz.underlying22])
      rw [show Tryz.prog.bytesOf 39 = 40 from by kernel_rfl] at this
      simp only [List.length_map, List.length_range, reachBytes] at this
      omega
    obtain ⟨b, off, spot⟩ := x
    by_cases h0 : len = 0
    · subst h0
      exact ⟨[], rfl, ⟨by simp, _, _, rfl, by simp, .inl rfl⟩, by simp⟩
    have hspot : spot = none := by
      obtain ⟨cs', h1, _⟩ := hel 0 (by omega)
      obtain ⟨_, hlen', hc⟩ := World.cells?_some h1
      have := hc 0 (by decide)
      rw [List.getElem?_eq_getElem (by omega)] at this
      simpa [Addr.add] using World.cell?_spot this
    subst hspot
    have hall : ∀ i, i < len → ∃ x : Rt, Okr x ∧ w.rangeAt b (off + i * 19) ((listD x)) := by
      intro i hi
      obtain ⟨cs', h1, h2⟩ := hel i (by omega)
      rw [add_plain] at h1
      obtain ⟨_, hlen, hcell⟩ := World.cells?_some h1
      obtain ⟨x, hx, rfl⟩ := open_rt hlen h2
      refine ⟨x, hx, fun j v hj => ?_⟩
      have hj' : j < 19 := by
        have := (List.getElem?_eq_some_iff.1 hj).1
        rw [← hlen]; exact this
      have hc' := hcell j hj'
      rw [add_plain] at hc'
      rw [hc']; exact hj
    have hinh : Inhabited Rt := ⟨zeroD⟩
    obtain ⟨F, hF⟩ := choose_lt (α := Rt) hall
    refine ⟨(List.range len).map F, by simp, ⟨?_, some ⟨b, off, none⟩, _, by simp; rfl, by simp; omega, .inr ⟨b, off, rfl, ?_⟩⟩, by simp; omega⟩
    · intro o ho
      obtain ⟨i, hi, rfl⟩ := List.mem_map.mp ho
      exact (hF i (by simpa using hi)).1
    · intro i o ho
      have hi : i < len := by
        rcases Nat.lt_or_ge i len with h | h
        · exact h
        · rw [List.getElem?_eq_none (by simpa using h)] at ho; simp at ho
      simp [hi] at ho
      subst ho
      exact (hF i hi).2
def laidAll : List (String × DataW Unit) := [("math/bits.deBruijn32tab", Rows.laid_math_bits_deBruijn32tab), ("math/bits.deBruijn64tab", Rows.laid_math_bits_deBruijn64tab), ("internal/strconv.uint64pow10", Rows.laid_internal_strconv_uint64pow10)]
def bru64 : List Int := [0, 1, 56, 2, 57, 49, 28, 3, 61, 58, 42, 50, 38, 29, 17, 4, 62, 47, 59, 36, 45, 43, 51, 22, 53, 39, 33, 30, 24, 18, 12, 5, 63, 55, 48, 27, 60, 41, 37, 16, 46, 35, 44, 21, 52, 32, 23, 11, 54, 26, 40, 15, 34, 20, 31, 10, 25, 14, 19, 9, 13, 8, 7, 6]
def bru32 : List Int := [0, 1, 28, 2, 29, 14, 24, 3, 30, 22, 20, 15, 25, 17, 4, 8, 31, 27, 13, 23, 21, 19, 16, 7, 26, 12, 18, 6, 11, 5, 10, 9]
theorem glob_of {W : World} (hL : laidMet Tryz.prog laidAll W) (hS : W.ShapedOpen Tryz.prog) : Glob W := by
  have hL64 : laidMet Tryz.prog [("math/bits.deBruijn64tab", Rows.laid_math_bits_deBruijn64tab)] W := by
    have h := laidMet.filter (fun x => x.1 == "math/bits.deBruijn64tab") hL
    have e : laidAll.filter (fun x => x.1 == "math/bits.deBruijn64tab") = [("math/bits.deBruijn64tab", Rows.laid_math_bits_deBruijn64tab)] := by simp [laidAll]
    rwa [e] at h
  have hLp : laidMet Tryz.prog [("internal/strconv.uint64pow10", Rows.laid_internal_strconv_uint64pow10)] W := by
    have h := laidMet.filter (fun x => x.1 == "internal/strconv.uint64pow10") hL
    have e : laidAll.filter (fun x => x.1 == "internal/strconv.uint64pow10") = [("internal/strconv.uint64pow10", Rows.laid_internal_strconv_uint64pow10)] := by simp [laidAll]
    rwa [e] at h
  have t64 : Lib.TabIs Tryz.prog W "math/bits.deBruijn64tab" .u8 bru64 := Lib.tabIs_of_head (rest := []) (g := 3) (t := 146) (n := 64) (by kernel_rfl) (by kernel_rfl) Tryz.underlying146 Tryz.underlying5 cells5 (by kernel_rfl) hL64
  have tp : Lib.TabIs Tryz.prog W "internal/strconv.uint64pow10" .u64 Lib.pow10Tab := Lib.tabIs_of_head (rest := []) (g := 1) (t := 130) (n := 20) (by kernel_rfl) (by kernel_rfl) Tryz.underlying130 Tryz.underlying96 (by kernel_rfl) (by kernel_rfl) hLp
  have hc : W.cell? ⟨3, 15, none⟩ = some (.int .u8 4) := t64.cell (by kernel_rfl) 15 (by decide)
  have h4 := block_lt_of_cell hc
  refine ⟨?_, Tryz.laysM145.s1_3 W hS, tp, hc⟩
  exact h4
/-- A world for the witness: the three tables as their initialisers lay them. -/
def setCs (cs : Array Value) : Obj → Obj
  | .cells _ t fr => .cells cs t fr
  | o => o
def u8s (l : List Int) : Array Value := (l.map (Value.int .u8)).toArray
def u64s (l : List Int) : Array Value := (l.map (Value.int .u64)).toArray
def laidWorld (P : Program) (os : Os) : World :=
  { World.holding P os ⟨#[], #[], []⟩ with heap := (((World.holding P os ⟨#[], #[], []⟩).heap.modify 1 (setCs (u64s Lib.pow10Tab))).modify 2 (setCs (u8s bru32))).modify 3 (setCs (u8s bru64)) }
theorem bulk_mem {H : Type} : ∀ {ds : List (DataW H)} {d : DataW H}, d ∈ ds → Rows.uptoBulk d ≤ Rows.uptoBulkAll ds
  | [], _, h => by simp at h
  | x :: r, d, h => by
    simp only [List.mem_cons] at h
    simp only [Rows.uptoBulkAll]
    rcases h with rfl | h
    · omega
    · have := bulk_mem h; omega
theorem str_small {H : Type} {enc : TypeId × Value → H} {W : World} {base : Nat} {spare : Nat → Bool} {held : Bool} {s : ByteArray} {d : DataW H} {p : List MemPlace} {ds : List (DataW H)} (hk : Rows.uptoSmall H ds = true) (h : DataW.Trod enc Tryz.prog W base spare held 9 (.string s) d p) (hm : d ∈ ds) : s.size ≤ 1048576 := by
  obtain ⟨fuel, hf⟩ := h
  obtain ⟨s', h1, h2, _⟩ := DataW.trod_string Tryz.underlying9 hf
  simp only [Value.cells, List.cons.injEq, Value.string.injEq, and_true] at h1
  subst h1
  have hd : d = .lit (.string s.data.toList) := by simpa using congrArg Prod.fst h2
  have hb := bulk_mem hm
  rw [hd] at hb
  have hk' : Rows.uptoBulkAll ds ≤ 1048576 := of_decide_eq_true hk
  have e : Rows.uptoBulk (H := H) (.lit (.string s.data.toList)) = s.size + 1 := by
    simp only [Rows.uptoBulk]
    rfl
  omega
end Go.Proofs.YtoifolmcdkfniabGreatDoor
