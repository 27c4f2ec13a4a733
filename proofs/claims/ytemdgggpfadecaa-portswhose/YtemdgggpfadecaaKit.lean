/-
  What every row shares: what came in.
-/
import Derived.Test.YtemdgggpfadecaaF3
import Derived.Test.YtemdgggpfadecaaRows
import Derived.Deep.DeepHandedRow
import Derived.Deep.CondSized
import Derived.Deep.Slices
import Derived.ChangeOld
import Derived.Carry
namespace Go.Proofs.Ytemdgggpfadecaa
open Go.ChangeShapes Go.WideShapes Go.ChangeAt Go.RowKit Go.Deep
set_option linter.unusedVariables false
set_option linter.unusedSimpArgs false
set_option maxRecDepth 100000

theorem ownKn : ownKnob Try.prog.godebug = none := by kernel_rfl
theorem laidOut : laidOutB Try.prog = true := by kernel_rfl
theorem cells3 : Try.prog.cellsOf 3 = 1 := by kernel_rfl
theorem cells35 : Try.prog.cellsOf 35 = 20 := by kernel_rfl
def nOf : Value → Int
  | .int _ n => n
  | _ => 0
/-- An address among a list's cells. -/
theorem open_adrL {H : Type} {enc : TypeId × Value → H} {W : World} {base' : Nat} {spare : Nat → Bool} {held : Bool} {fuel : Nat} {cs : List Value} {d : DataW H} {p : List MemPlace} (hsz : cs.length = 17) (hf : DataW.trod enc Try.prog W base' spare held fuel 32 cs = some (d, p)) :
    ∃ (v : Int) (l : List Int), cs = cellsA v l ∧ Byt l ∧ (Lit.int .i64 v).wf = true := by
  obtain ⟨xs, n, _, _, hlen, hxs, hfs⟩ := DataW.trod_struct Try.underlying32 hf
  have h0 : DataW.trod enc Try.prog W base' spare held n 3 ((cs.drop 0).take (Try.prog.cellsOf 3)) = xs[0]? := hfs 0 _ rfl
  have h1 : DataW.trod enc Try.prog W base' spare held n 30 ((cs.drop 1).take (Try.prog.cellsOf 30)) = xs[1]? := hfs 1 _ rfl
  have hx2 : xs.length = 2 := by simpa using hxs
  rw [List.getElem?_eq_getElem (by omega)] at h0 h1
  obtain ⟨v, hv0, _, hvw⟩ := DataW.trod_int Try.underlying3 h0
  obtain ⟨ys, m, _, _, hl1, hys, hel⟩ := DataW.trod_array Try.underlying30 h1
  have hb : ∀ i, i < 16 → ∃ k : Int, cs[1 + i]? = some (.int .u8 k) ∧ (Lit.int .u8 k).wf = true := by
    intro i hi
    have h2 := hel i hi
    rw [List.getElem?_eq_getElem (by omega)] at h2
    obtain ⟨k, hk, _, hkw⟩ := DataW.trod_int Try.underlying5 h2
    refine ⟨k, ?_, hkw⟩
    rw [cells5, Nat.mul_one] at hk
    have h3 : ((List.take (Try.prog.cellsOf 30) (List.drop 1 cs)).drop i)[0]? = some (.int .u8 k) := by
      have := congrArg (fun l => l[0]?) hk
      simpa using this
    rw [cells22] at h3
    simp only [List.getElem?_drop, List.getElem?_take, Nat.add_zero] at h3
    rw [if_pos hi] at h3
    exact h3
  have hmap : ((cs.drop 1).map nOf).map (Value.int .u8) = cs.drop 1 := by
    rw [List.map_map]
    apply List.ext_getElem?
    intro i
    rw [List.getElem?_map, List.getElem?_drop]
    by_cases hi : i < 16
    · obtain ⟨k, hk, _⟩ := hb i hi
      rw [hk]; rfl
    · rw [List.getElem?_eq_none (by omega)]; rfl
  refine ⟨v, (cs.drop 1).map nOf, ?_, ⟨by simp; omega, ?_⟩, hvw⟩
  · show cs = Value.int .i64 v :: ((cs.drop 1).map nOf).map (Value.int .u8)
    rw [hmap]
    have h3 : cs[0]? = some (.int .i64 v) := by
      have := congrArg (fun l => l[0]?) hv0
      rw [cells3] at this
      simpa using this
    cases hcs : cs with
    | nil => rw [hcs] at h3; simp at h3
    | cons a r => rw [hcs] at h3; simp at h3; rw [h3]; rfl
  · intro y hy
    simp only [List.mem_map] at hy
    obtain ⟨z, hz, rfl⟩ := hy
    obtain ⟨i, hi⟩ := List.mem_iff_getElem?.1 hz
    rw [List.getElem?_drop] at hi
    have hi16 : i < 16 := by
      have := (List.getElem?_eq_some_iff.1 hi).1
      omega
    obtain ⟨k, hk, hkw⟩ := hb i hi16
    rw [hk] at hi
    simp only [Option.some.injEq] at hi
    subst hi
    have h5 : IntKind.u8.min ≤ k ∧ k ≤ IntKind.u8.max := by simpa [Lit.wf] using hkw
    exact ⟨h5.1, h5.2⟩
theorem open_addr {H : Type} {enc : TypeId × Value → H} {W : World} {base base' : Nat} {spare : Nat → Bool} {held : Bool} {x : Value} {d : DataW H} {p : List MemPlace} (hv : Value.okWide Try.prog W .any base 32 x) (h : DataW.Trod enc Try.prog W base' spare held 32 x d p) :
    ∃ (v : Int) (l : List Int), x = .agg (csA v l) ∧ Byt l ∧ (Lit.int .i64 v).wf = true := by
  obtain ⟨cs, rfl, hsz⟩ := okWide_struct Try.underlying32 hv
  rw [cells24] at hsz
  obtain ⟨fuel, hf⟩ := h
  simp only [Value.cells] at hf
  obtain ⟨v, l, h1, h2, h3⟩ := open_adrL (by simpa using hsz) hf
  refine ⟨v, l, ?_, h2, h3⟩
  congr 1
  apply Array.ext'
  exact h1
/-- A call of a script. -/
structure Opr where
  kd : Int
  who : Int
  n : Int
  v : Int
  l : List Int
def listO (x : Opr) : List Value := [.int .i64 x.kd, .int .i64 x.who, .int .i64 x.n] ++ cellsA x.v x.l
def OkO (x : Opr) : Prop := I64 x.kd ∧ I64 x.who ∧ I64 x.n ∧ I64 x.v ∧ Byt x.l
theorem open_op {H : Type} {enc : TypeId × Value → H} {w : World} {fuel : Nat} {cs : List Value} {D : DataW H} {Pl : List MemPlace} (hsz : cs.length = 20)
    (h : DataW.trod enc Try.prog w 0 (fun _ => true) true fuel 35 cs = some (D, Pl)) : ∃ x : Opr, OkO x ∧ cs = listO x := by
  obtain ⟨xs, n, _, hx, hl, hxs, hfs⟩ := DataW.trod_struct Try.underlying35 h
  have hx4 : xs.length = 4 := by simpa using hxs
  have h0 : DataW.trod enc Try.prog w 0 (fun _ => true) true n 3 ((cs.drop 0).take (Try.prog.cellsOf 3)) = xs[0]? := hfs 0 _ rfl
  have h1 : DataW.trod enc Try.prog w 0 (fun _ => true) true n 3 ((cs.drop 1).take (Try.prog.cellsOf 3)) = xs[1]? := hfs 1 _ rfl
  have h2 : DataW.trod enc Try.prog w 0 (fun _ => true) true n 3 ((cs.drop 2).take (Try.prog.cellsOf 3)) = xs[2]? := hfs 2 _ rfl
  have h3 : DataW.trod enc Try.prog w 0 (fun _ => true) true n 32 ((cs.drop 3).take (Try.prog.cellsOf 32)) = xs[3]? := hfs 3 _ rfl
  rw [List.getElem?_eq_getElem (by omega)] at h0 h1 h2 h3
  obtain ⟨a, ha, _, wa⟩ := DataW.trod_int Try.underlying3 h0
  obtain ⟨b, hb, _, wb⟩ := DataW.trod_int Try.underlying3 h1
  obtain ⟨c, hc, _, wc⟩ := DataW.trod_int Try.underlying3 h2
  rw [cells24] at h3
  obtain ⟨v, l, he, hby, wv⟩ := open_adrL (by simp; omega) h3
  rw [cells3] at ha hb hc
  refine ⟨⟨a, b, c, v, l⟩, ⟨bounds_i64 wa, bounds_i64 wb, bounds_i64 wc, bounds_i64 wv, hby⟩, ?_⟩
  rw [List.take_of_length_le (by simp; omega)] at he
  rcases cs with _ | ⟨c0, _ | ⟨c1, _ | ⟨c2, r⟩⟩⟩
  · simp at hsz
  · simp at hsz
  · simp at hsz
  · simp at ha hb hc he
    subst ha hb hc
    show _ = [_, _, _] ++ cellsA v l
    rw [← he]; rfl
/-- A script that came in. -/
def RowO (w : World) (a : Option Addr) (l : List Opr) : Prop := (∀ x ∈ l, OkO x) ∧ (l = [] ∨ ∃ b off, a = some ⟨b, off, none⟩ ∧ b < w.heap.size ∧ ∀ (i : Nat) (x : Opr), l[i]? = some x → w.rangeAt b (off + i * 20) (listO x))
theorem RowO.on {w w' : World} {a : Option Addr} {l : List Opr} (h : RowO w a l) (hw : Away [] w w') : RowO w' a l := by
  refine ⟨h.1, ?_⟩
  rcases h.2 with h1 | ⟨b, off, rfl, hb, h1⟩
  · exact .inl h1
  · exact .inr ⟨b, off, rfl, Nat.lt_of_lt_of_le hb hw.size, fun i x hx => range_away hw (by simp) (h1 i x hx)⟩
theorem RowO.at {w : World} {a : Option Addr} {l : List Opr} (h : RowO w a l) {k : Nat} {x : Opr} (hk : l[k]? = some x) : ∃ b off, a = some ⟨b, off, none⟩ ∧ b < w.heap.size ∧ w.rangeAt b (off + k * 20) (listO x) ∧ OkO x := by
  rcases h.2 with h0 | ⟨b, off, rfl, hb, hc⟩
  · rw [h0] at hk; simp at hk
  · exact ⟨b, off, rfl, hb, hc k x hk, h.1 x (List.mem_of_getElem? hk)⟩
theorem rangeO {w : World} {g o : Nat} {x : Opr} (h : w.rangeAt g o (listO x)) : w.cell? ⟨g, o, none⟩ = some (.int .i64 x.kd) ∧ w.cell? ⟨g, o + 1, none⟩ = some (.int .i64 x.who) ∧ w.cell? ⟨g, o + 2, none⟩ = some (.int .i64 x.n) ∧ w.rangeAt g (o + 3) (cellsA x.v x.l) :=
  ⟨by have := h 0 _ rfl; simpa using this, h 1 _ rfl, h 2 _ rfl, fun j u hj => by rw [show o + 3 + j = o + (3 + j) from by omega]; refine h (3 + j) u ?_; rw [listO, List.getElem?_append_right (by simp)]; simpa using hj⟩
theorem open_script {H : Type} {enc : TypeId × Value → H} {w : World} {a : Option Addr} {len cap : Nat} {d : DataW H} {p : List MemPlace}
    (h : DataW.Trod enc Try.prog w 0 (fun _ => true) true 22 (.slice a len cap) d p) (hw : ∀ n ∈ d.weights Try.prog 22, n ≤ reachBytes) (hlt : ∀ x ∈ p, x.block < w.heap.size) :
    ∃ l : List Opr, l.length = len ∧ RowO w a l ∧ l.length ≤ 2932031007402 := by
  obtain ⟨fuel, hf⟩ := h
  have h : DataW.trod enc Try.prog w 0 (fun _ => true) true fuel 22 [.slice a len cap] = some (d, p) := by simpa [Value.cells] using hf
  rcases open_slice Try.underlying22 h with ⟨hcs, hx⟩ | ⟨x, l, c, m, n, D, Pl, hcs, hb, hl, hm, hmm, hx, hel⟩
  · simp only [List.cons.injEq, Value.slice.injEq, and_true] at hcs
    obtain ⟨rfl, rfl, rfl⟩ := hcs
    exact ⟨[], rfl, ⟨by simp, .inl rfl⟩, by simp⟩
  · simp only [List.cons.injEq, Value.slice.injEq, and_true] at hcs
    obtain ⟨rfl, rfl, rfl⟩ := hcs
    simp only [Prod.mk.injEq] at hx
    obtain ⟨rfl, hpl⟩ := hx
    simp only [if_true] at hmm
    subst hmm
    rw [cells35] at hel
    have hreach : m * 48 ≤ 140737488351232 := by
      have := hw ((((List.range len).map D).length + ((List.range (m - len)).map fun j => D (len + j)).length) * Try.prog.bytesOf 35) (by simp [DataW.weights, Try.underlying22])
      rw [show Try.prog.bytesOf 35 = 48 from by kernel_rfl] at this
      simp only [List.length_map, List.length_range, reachBytes] at this
      omega
    obtain ⟨b, off, spot⟩ := x
    by_cases h0 : len = 0
    · subst h0
      exact ⟨[], rfl, ⟨by simp, .inl rfl⟩, by simp⟩
    have hspot : spot = none := by
      obtain ⟨cs', h1, _⟩ := hel 0 (by omega)
      obtain ⟨_, hlen', hc⟩ := World.cells?_some h1
      have := hc 0 (by decide)
      rw [List.getElem?_eq_getElem (by omega)] at this
      simpa [Addr.add] using World.cell?_spot this
    subst hspot
    have hall : ∀ i, i < len → ∃ x : Opr, OkO x ∧ w.rangeAt b (off + i * 20) (listO x) := by
      intro i hi
      obtain ⟨cs', h1, h2⟩ := hel i (by omega)
      rw [add_plain] at h1
      obtain ⟨_, hlen, hcell⟩ := World.cells?_some h1
      obtain ⟨x, hx, rfl⟩ := open_op hlen h2
      refine ⟨x, hx, fun j v hj => ?_⟩
      have hj' : j < 20 := by
        have := (List.getElem?_eq_some_iff.1 hj).1
        rw [← hlen]; exact this
      have hc' := hcell j hj'
      rw [add_plain] at hc'
      rw [hc']; exact hj
    have hinh : Inhabited Opr := ⟨⟨0, 0, 0, 0, z16⟩⟩
    obtain ⟨F, hF⟩ := choose_lt (α := Opr) hall
    have hb0 : b < w.heap.size := block_lt_of_cell ((hF 0 (by omega)).2 0 _ rfl)
    refine ⟨(List.range len).map F, by simp, ⟨?_, .inr ⟨b, off, rfl, hb0, ?_⟩⟩, by simp; omega⟩
    · intro o ho
      obtain ⟨i, hi, rfl⟩ := List.mem_map.mp ho
      exact (hF i (by simpa using hi)).1
    · intro i o ho
      have hi : i < len := by
        rcases Nat.lt_or_ge i len with h | h
        · exact h
        · rw [List.getElem?_eq_none (by simpa using h)] at ho; simp at ho
      simp [hi] at ho
      subst ho
      exact (hF i hi).2
set_option maxHeartbeats 4000000 in
theorem same_yes {w : World} {a b : Value} {l : List Int} (ha : LI w a l) (hb : LI w b l) (hl : l.length ≤ 17592186044416) : Calls Try.prog 13 #[a, b] w fun E w' => E = .returned (.bool true) ∧ Away [] w w' := by
  obtain ⟨aa, ac, rfl, -, hac⟩ := ha.sl
  obtain ⟨ba, bc, rfl, -, hbc⟩ := hb.sl
  have HAC := Lib.hid hac
  have HBC := Lib.hid hbc
  obtain ⟨n, hn⟩ : ∃ n, n = l.length := ⟨_, rfl⟩
  rw [← hn] at hl ⊢
  have HN := Lib.hid hn
  clear ha hb hac hbc hn
  go_enter Try.func13, Try.ntmps13
  go_wp2_with fail
  go_loopw [5] (fun i wr => ∃ k : Nat, i = .int .i64 (k : Int) ∧ k ≤ n ∧ Away [] w wr) (fun i _ => n - (intOf i).toNat)
  case atStart => exact ⟨0, rfl, Nat.zero_le _, Away.refl _ _⟩
  case round =>
    obtain ⟨k, rfl, hk, haw⟩ := hrel
    have HA := Lib.hid haw
    clear haw
    by_cases hkn : k < n
    · have j1 : decide (k < n) = true := by simp; omega
      have j0 : (k : Int) < (n : Int) := by omega
      have j2 : 0 ≤ (k : Int) := by omega
      have j3 : ((k : Int)).toNat = k := by omega
      obtain ⟨x, hx, -⟩ := get_of (show k < l.length by rw [← HN.out]; omega)
      obtain ⟨ga, rfl, hca⟩ := HAC.out k x hx
      obtain ⟨gb, rfl, hcb⟩ := HBC.out k x hx
      have c1 := HA.out.cell (by simp) hca
      have c2 := HA.out.cell (by simp) hcb
      clear hca hcb hx hkn
      have haw := (Away.refl [] wr).drew
      go_upto_region 6 with fail
      go_quiet (fail)
      replace HA := Lib.hid (HA.out.drewN nq)
      go_wp2_with fail
      go_roundw
      case rel => exact ⟨k + 1, by go_num, by omega, HA.out⟩
      case measure => simp [intOf]; omega
    · have j1 : decide (k < n) = false := by simp; omega
      clear hkn
      go_wp2_with fail
      go_ret
      exact ⟨rfl, HA.out⟩
end Go.Proofs.Ytemdgggpfadecaa
