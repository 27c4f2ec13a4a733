/-
  An entry in memory.
-/
import Derived.Test.YtkccpidgeecemaaGreatDoorKey
import Derived.Test.YtkccpidgeecemaaGreatDoorEqb
import Derived.Test.YtkccpidgeecemaaGreatDoorHhA
import Derived.Maps.OwnSet
import Derived.Maps.Views
namespace Go.Proofs.YtkccpidgeecemaaGreatDoor
open Go.ChangeShapes Go.WideShapes Go.ChangeAt Go.RowKit
set_option linter.unusedVariables false
set_option linter.unusedSimpArgs false
set_option maxRecDepth 20000
/-! The pieces of version 6: a map. -/
def rdP (v : Value) : Option (DataW Unit × List MemPlace) :=
  match v with
  | .agg cs => match cs.toList with
    | [.int .i64 a, .bool b] => some (.agg [.lit (.int .i64 a), .lit (.bool b)], [])
    | _ => none
  | _ => none
theorem rdP_of (a : Int) (b : Bool) : rdP (.agg #[.int .i64 a, .bool b]) = some (.agg [.lit (.int .i64 a), .lit (.bool b)], []) := rfl
theorem rdP_inv {v : Value} {z : DataW Unit × List MemPlace} (h : rdP v = some z) : ∃ a b, v = .agg #[.int .i64 a, .bool b] ∧ z = (.agg [.lit (.int .i64 a), .lit (.bool b)], []) := by
  unfold rdP at h
  split at h
  · rename_i cs
    split at h
    · rename_i a b he
      have : cs = #[.int .i64 a, .bool b] := by rw [← Array.toList_inj]; exact he
      subst this
      simp at h
      exact ⟨a, b, rfl, h.symm⟩
    · simp at h
  · simp at h
def zP : DataW Unit := .agg [.lit (.int .i64 0), .lit (.bool false)]
def MapP (w : World) (b n : Nat) (f : Int → Int × Bool) : Prop :=
  ∃ D : DataW Unit, w.ownsMap Tryz.prog 3 rdP b n D ∧ ∀ k : Int, i64ok k → D.atKey (.int .i64 k) zP = .agg [.lit (.int .i64 (f k).1), .lit (.bool (f k).2)]
theorem key3 {k : Int} (h : i64ok k) : keyOf Tryz.prog 3 (.int .i64 k) = some (.int .i64 k) := by
  unfold i64ok at h
  simp [keyOf, mapKey, Tryz.underlying3, Lit.wf]
  exact ⟨by have : IntKind.i64.min = -9223372036854775808 := rfl; omega, h.2⟩
theorem zero85 (w : World) : (zeroValue 133).run Tryz.prog w = .ok (.agg #[.int .i64 0, .bool false]) w := by kernel_rfl
theorem MapP.made (w : World) : MapP (w.alloc (.map #[] 0)) w.heap.size 0 (fun _ => (0, false)) := ⟨.map [], World.ownsMap_made w _ _ _, fun k _ => rfl⟩
theorem MapP.lt {w : World} {b n : Nat} {f : Int → Int × Bool} (h : MapP w b n f) : b < w.heap.size := by obtain ⟨D, h, -⟩ := h; exact h.lt
theorem MapP.away {S : List Nat} {w w' : World} {b n : Nat} {f : Int → Int × Bool} (h : MapP w b n f) (hw : Away S w w') (hb : b ∉ S) : MapP w' b n f := by
  obtain ⟨D, ⟨es, c, h1, h2⟩, h3⟩ := h
  exact ⟨D, ⟨es, c, hw.keep hb h1, h2⟩, h3⟩
theorem MapP.on {w w' : World} {b n : Nat} {f : Int → Int × Bool} (h : MapP w b n f) (hw : Away [] w w') : MapP w' b n f := h.away hw (by simp)
theorem MapP.look {w : World} {b n : Nat} {f : Int → Int × Bool} (h : MapP w b n f) {k : Int} (hk : i64ok k) :
    (Instr.lookup 99 (.map (some b)) (.int .i64 k) false).run Tryz.prog w = .ok (.agg #[.int .i64 (f k).1, .bool (f k).2]) w := by
  obtain ⟨D, h1, h2⟩ := h
  obtain ⟨v, ps, hrun, hv⟩ := h1.lookup (Maps.int_keyed Tryz.underlying3) Tryz.underlying99 (zero85 w) (rdP_of 0 false) (key3 hk)
  obtain ⟨a, m, rfl, hz⟩ := rdP_inv hv
  have := h2 k hk
  simp only [Prod.mk.injEq] at hz
  have e := hz.1
  unfold zP at this
  rw [this] at e
  simp only [DataW.agg.injEq, List.cons.injEq, DataW.lit.injEq, Lit.int.injEq, Lit.bool.injEq, true_and, and_true] at e
  rw [hrun, e.1, e.2]
theorem MapP.put {w : World} {b n : Nat} {f : Int → Int × Bool} (h : MapP w b n f) (hn : n < maxLen) {k : Int} (hk : i64ok k) (a : Int) (m : Bool) :
    ∃ w', (Instr.mapUpdate 99 (.map (some b)) (.int .i64 k) (.agg #[.int .i64 a, .bool m])).run Tryz.prog w = .ok () w' ∧ MapP w' b (n + 1) (fun o => if o = k then (a, m) else f o) ∧ Away [b] w w' := by
  obtain ⟨D, h1, h2⟩ := h
  have hmap : Maps.IsMap D := h1.isMap
  obtain ⟨w', hrun, r1, r2⟩ := h1.update (Maps.int_keyed Tryz.underlying3) Tryz.underlying99 hn (key3 hk) (rdP_of a m)
  refine ⟨w', hrun, ⟨_, r1, fun o ho => ?_⟩, (Away.refl _ _).grown r2 (fun x hx => .inl (by simp at hx; simp [hx]))⟩
  by_cases he : o = k
  · subst he
    rw [Maps.atKey_put_same hmap (by trivial)]
    simp
  · rw [Maps.atKey_put_other (by simpa using he), h2 o ho]
    simp [he]
/-! The cells of an entry. -/
def listE (s : Es) (lp dv ov mp : Value) : List Value :=
  listK s.k ++ ([.int .i64 s.tb, .bool s.bad, lp, dv, .int .i64 s.h] ++ (listP s.f ov (.slice none 0 0) ++ [.int .i64 s.fl, .int .i64 s.hd, mp]))
def csE (s : Es) (lp dv ov mp : Value) : Array Value := (listE s lp dv ov mp).toArray
theorem listK_len {p : Pk} (h : Ad p) : (listK p).length = 37 := by simp [listK, cellsA, h.1, h.2]
theorem listE_len {s : Es} (hk : Ad s.k) (hf : Ad s.f) (lp dv ov mp : Value) : (listE s lp dv ov mp).length = 91 := by
  simp only [listE, List.length_append, listK_len hk, listP_len hf]; rfl
theorem csE_size {s : Es} (hk : Ad s.k) (hf : Ad s.f) (lp dv ov mp : Value) : (csE s lp dv ov mp).size = 91 := by simpa [csE] using listE_len hk hf lp dv ov mp
theorem csE_mid {s : Es} (hk : Ad s.k) (lp dv ov mp : Value) : (csE s lp dv ov mp)[37]? = some (.int .i64 s.tb) ∧ (csE s lp dv ov mp)[38]? = some (.bool s.bad) ∧ (csE s lp dv ov mp)[39]? = some lp ∧ (csE s lp dv ov mp)[40]? = some dv ∧ (csE s lp dv ov mp)[41]? = some (.int .i64 s.h) := by
  have e : ∀ i, i < 5 → (csE s lp dv ov mp)[37 + i]? = [Value.int .i64 s.tb, .bool s.bad, lp, dv, .int .i64 s.h][i]? := fun i hi => by
    unfold csE listE
    rw [List.getElem?_toArray, List.getElem?_append_right (by rw [listK_len hk]; omega), listK_len hk, show 37 + i - 37 = i from by omega, List.getElem?_append_left (by simpa using hi)]
  exact ⟨e 0 (by omega), e 1 (by omega), e 2 (by omega), e 3 (by omega), e 4 (by omega)⟩
theorem csE_end {s : Es} (hk : Ad s.k) (hf : Ad s.f) (lp dv ov mp : Value) : (csE s lp dv ov mp)[88]? = some (.int .i64 s.fl) ∧ (csE s lp dv ov mp)[89]? = some (.int .i64 s.hd) ∧ (csE s lp dv ov mp)[90]? = some mp := by
  have e : ∀ i, i < 3 → (csE s lp dv ov mp)[88 + i]? = [Value.int .i64 (s.fl : Int), .int .i64 s.hd, mp][i]? := fun i hi => by
    unfold csE listE
    rw [List.getElem?_toArray, List.getElem?_append_right (by rw [listK_len hk]; omega), listK_len hk, List.getElem?_append_right (by simp; omega), List.getElem?_append_right (by rw [listP_len hf]; simp; omega), listP_len hf]
    congr 1
    simp; omega
  exact ⟨e 0 (by omega), e 1 (by omega), e 2 (by omega)⟩
theorem csE_key {w : World} {g : Nat} {s : Es} {lp dv ov mp : Value} {t : TypeId} {fr : Nat × Nat} (hb : w.heap[g]? = some (.cells (csE s lp dv ov mp) t fr)) : w.rangeAt g 0 (listK s.k) := fun j v hj => by
  have hl : j < (listK s.k).length := (List.getElem?_eq_some_iff.1 hj).1
  rw [cell_of_row w g (0 + j) _ t fr hb]
  simp only [csE, listE, List.getElem?_toArray, Nat.zero_add]
  rw [List.getElem?_append_left hl, hj]
theorem csE_first {w : World} {g : Nat} {s : Es} {lp dv ov mp : Value} {t : TypeId} {fr : Nat × Nat} (hk : Ad s.k) (hb : w.heap[g]? = some (.cells (csE s lp dv ov mp) t fr)) : w.rangeAt g 42 (listP s.f ov (.slice none 0 0)) := fun j v hj => by
  have hl : j < (listP s.f ov (.slice none 0 0)).length := (List.getElem?_eq_some_iff.1 hj).1
  rw [cell_of_row w g (42 + j) _ t fr hb]
  simp only [csE, listE, List.getElem?_toArray]
  rw [List.getElem?_append_right (by rw [listK_len hk]; omega), listK_len hk, List.getElem?_append_right (by simp; omega), show 42 + j - 37 - [Value.int .i64 s.tb, .bool s.bad, lp, dv, .int .i64 s.h].length = j from by simp; omega, List.getElem?_append_left hl, hj]
theorem csE_one (s : Es) (lp dv ov mp : Value) (h1 : lp.oneCell' = true) (h2 : dv.oneCell' = true) (h3 : ov.oneCell' = true) (h4 : mp.oneCell' = true) : (csE s lp dv ov mp).all (·.oneCell') = true := by
  simp only [Array.all_eq_true_iff_forall_mem]
  intro x hx
  simp only [csE, listE, List.mem_toArray, List.mem_append, List.mem_cons, List.not_mem_nil, or_false] at hx
  rcases hx with hx | (rfl | rfl | rfl | rfl | rfl) | hx | rfl | rfl | rfl
  · exact (Array.all_eq_true_iff_forall_mem.1 (csK_one s.k)) x (by simpa [csK] using hx)
  all_goals first | rfl | assumption | exact listP_one _ _ _ h3 rfl x hx
structure Apart (g lb : Nat) (lv dv ov : Value) (mb : Nat) : Prop where
  gl : g ≠ lb
  gm : g ≠ mb
  lm : lb ≠ mb
  gv : lv.ownBlock ≠ some g
  gd : dv.ownBlock ≠ some g
  go : ov.ownBlock ≠ some g
  lw : lv.ownBlock ≠ some lb
  ld : dv.ownBlock ≠ some lb
  lo : ov.ownBlock ≠ some lb
  mv : lv.ownBlock ≠ some mb
  md : dv.ownBlock ≠ some mb
  mo : ov.ownBlock ≠ some mb
  vd : ∀ k, lv.ownBlock = some k → dv.ownBlock ≠ some k
  vo : ∀ k, lv.ownBlock = some k → ov.ownBlock ≠ some k
  dO : ∀ k, dv.ownBlock = some k → ov.ownBlock ≠ some k
def fpE (g lb : Nat) (lv dv ov : Value) (mb : Nat) : List Nat := g :: lb :: mb :: (lv.ownBlock.toList ++ (dv.ownBlock.toList ++ ov.ownBlock.toList))
theorem mem_fp {g lb mb x : Nat} {lv dv ov : Value} : x ∈ fpE g lb lv dv ov mb ↔ x = g ∨ x = lb ∨ x = mb ∨ lv.ownBlock = some x ∨ dv.ownBlock = some x ∨ ov.ownBlock = some x := by simp [fpE]
structure EntG (w : World) (g : Nat) (s : Es) (lb : Nat) (lv dv ov : Value) (mb mn : Nat) : Prop where
  blk : w.heap[g]? = some (.cells (csE s (.pointer (some ⟨lb, 0, none⟩)) dv ov (.map (some mb))) 101 (0, 0))
  nb : s.bad = false
  kad : Ad s.k
  fad : Ad s.f
  hl : H.Hl w lb lv s.m s.e
  da : Owns w dv s.d
  oo : Owns w ov s.f.o
  mp : MapP w mb mn s.ps
  ap : Apart g lb lv dv ov mb
theorem EntG.lt {w : World} {g : Nat} {s : Es} {lb : Nat} {lv dv ov : Value} {mb mn : Nat} (h : EntG w g s lb lv dv ov mb mn) : ∀ x ∈ fpE g lb lv dv ov mb, x < w.heap.size := fun x hx => by
  rcases mem_fp.1 hx with rfl | rfl | rfl | hx | hx | hx
  · exact lt_of_block h.blk
  · exact lt_of_block h.hl.blk
  · exact h.mp.lt
  · exact h.hl.lst.lt x hx
  · exact h.da.lt x hx
  · exact h.oo.lt x hx
theorem EntG.away {S : List Nat} {w w' : World} {g : Nat} {s : Es} {lb : Nat} {lv dv ov : Value} {mb mn : Nat} (h : EntG w g s lb lv dv ov mb mn) (hw : Away S w w') (hS : ∀ x ∈ fpE g lb lv dv ov mb, x ∉ S) : EntG w' g s lb lv dv ov mb mn :=
  ⟨hw.keep (hS g (mem_fp.2 (by simp))) h.blk, h.nb, h.kad, h.fad, h.hl.away hw (hS lb (mem_fp.2 (by simp))) (fun k hk => hS k (mem_fp.2 (by simp [hk]))), h.da.away hw (fun k hk => hS k (mem_fp.2 (by simp [hk]))),
    h.oo.away hw (fun k hk => hS k (mem_fp.2 (by simp [hk]))), h.mp.away hw (hS mb (mem_fp.2 (by simp))), h.ap⟩
theorem EntG.on {w w' : World} {g : Nat} {s : Es} {lb : Nat} {lv dv ov : Value} {mb mn : Nat} (h : EntG w g s lb lv dv ov mb mn) (hw : Away [] w w') : EntG w' g s lb lv dv ov mb mn := h.away hw (by simp)
theorem EntG.cells {w : World} {g : Nat} {s : Es} {lb : Nat} {lv dv ov : Value} {mb mn : Nat} (h : EntG w g s lb lv dv ov mb mn) :
    w.cell? ⟨g, 37, none⟩ = some (.int .i64 s.tb) ∧ w.cell? ⟨g, 38, none⟩ = some (.bool s.bad) ∧ w.cell? ⟨g, 39, none⟩ = some (.pointer (some ⟨lb, 0, none⟩)) ∧ w.cell? ⟨g, 40, none⟩ = some dv ∧ w.cell? ⟨g, 41, none⟩ = some (.int .i64 s.h) ∧
    w.cell? ⟨g, 88, none⟩ = some (.int .i64 s.fl) ∧ w.cell? ⟨g, 89, none⟩ = some (.int .i64 s.hd) ∧ w.cell? ⟨g, 90, none⟩ = some (.map (some mb)) := by
  obtain ⟨a1, a2, a3, a4, a5⟩ := csE_mid h.kad (.pointer (some ⟨lb, 0, none⟩)) dv ov (.map (some mb))
  obtain ⟨b1, b2, b3⟩ := csE_end h.kad h.fad (.pointer (some ⟨lb, 0, none⟩)) dv ov (.map (some mb))
  have e := cell_of_block h.blk
  exact ⟨by rw [e, a1], by rw [e, a2], by rw [e, a3], by rw [e, a4], by rw [e, a5], by rw [e, b1], by rw [e, b2], by rw [e, b3]⟩
theorem EntG.free {w : World} {g : Nat} {s : Es} {lb : Nat} {lv dv ov : Value} {mb mn : Nat} (h : EntG w g s lb lv dv ov mb mn) (i : Nat) : w.frozen? ⟨g, i, none⟩ = false := free_of_block h.blk i
def EntB (w : World) (g : Nat) (s : Es) : Prop := Ad s.k ∧ s.bad = true ∧ s = poisS s ∧ w.heap[g]? = some (.cells (csE s (.pointer none) (.slice none 0 0) (.slice none 0 0) (.map none)) 101 (0, 0))
def Ent (w : World) (g : Nat) (s : Es) (fp : List Nat) : Prop :=
  (EntB w g s ∧ fp = [g]) ∨ ∃ lb lv dv ov mb mn, EntG w g s lb lv dv ov mb mn ∧ fp = fpE g lb lv dv ov mb ∧ mn ≤ s.h.toNat
theorem Ent.lt {w : World} {g : Nat} {s : Es} {fp : List Nat} (h : Ent w g s fp) : ∀ x ∈ fp, x < w.heap.size := by
  rcases h with ⟨⟨-, -, -, h⟩, rfl⟩ | ⟨lb, lv, dv, ov, mb, mn, h, rfl, -⟩
  · intro x hx; simp at hx; subst hx; exact lt_of_block h
  · exact h.lt
theorem Ent.away {S : List Nat} {w w' : World} {g : Nat} {s : Es} {fp : List Nat} (h : Ent w g s fp) (hw : Away S w w') (hS : ∀ x ∈ fp, x ∉ S) : Ent w' g s fp := by
  rcases h with ⟨⟨h1, h2, h3, h⟩, rfl⟩ | ⟨lb, lv, dv, ov, mb, mn, h, rfl, hn⟩
  · exact .inl ⟨⟨h1, h2, h3, hw.keep (hS g (by simp)) h⟩, rfl⟩
  · exact .inr ⟨lb, lv, dv, ov, mb, mn, h.away hw hS, rfl, hn⟩
theorem Ent.on {w w' : World} {g : Nat} {s : Es} {fp : List Nat} (h : Ent w g s fp) (hw : Away [] w w') : Ent w' g s fp := h.away hw (by simp)
theorem Ent.mem {w : World} {g : Nat} {s : Es} {fp : List Nat} (h : Ent w g s fp) : g ∈ fp := by
  rcases h with ⟨-, rfl⟩ | ⟨lb, lv, dv, ov, mb, mn, -, rfl, -⟩
  · simp
  · exact mem_fp.2 (.inl rfl)
end Go.Proofs.YtkccpidgeecemaaGreatDoor
