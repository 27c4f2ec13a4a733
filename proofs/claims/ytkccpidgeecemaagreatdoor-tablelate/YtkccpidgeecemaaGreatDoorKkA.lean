/-
  Lists of keys: slices.Clone, append.
-/
import Derived.Test.YtkccpidgeecemaaGreatDoorKey
import Derived.Maps.OwnSet
import Derived.Maps.Views
import Derived.DeepKeys4
import Derived.Test.YtkccpidgeecemaaGreatDoorLp
import Derived.Test.YtkccpidgeecemaaGreatDoorHfA
import Derived.Test.YtkccpidgeecemaaGreatDoorEnt
import Derived.Deep.RegionLaw
import Derived.Test.YtkccpidgeecemaaGreatDoorEfA
namespace Go.Proofs.YtkccpidgeecemaaGreatDoor
open Go.ChangeShapes Go.WideShapes Go.ChangeAt Go.RowKit
set_option linter.unusedVariables false
set_option linter.unusedSimpArgs false
set_option maxRecDepth 20000
theorem laid48 : laidOutB Tryz.prog = true := by kernel_rfl
theorem row48 : (55 : TypeId) < Tryz.prog.types.size := of_decide_eq_true (by kernel_rfl)
theorem wide48 : (match Tryz.prog.underlying 55 with | some (.array _ _) | some (.struct _) => true | _ => false) = true := by kernel_rfl
theorem law48 : WideMaps.KeyLaw Tryz.prog 55 := deep_law_laid laid48 (m := 4) (by omega) row48 (by kernel_rfl) wide48
theorem keyed48 : Maps.Keyed Tryz.prog 55 := Maps.Keyed.of_law law48
theorem keyT48 : Tryz.prog.keyType 55 = true := by kernel_rfl
theorem nof48 : Tryz.prog.cellsOf 55 = 37 := by kernel_rfl
theorem size_types : ∃ d, Tryz.prog.types.size + 1 = d + 4 := ⟨Tryz.prog.types.size - 3, by have h : 55 < Tryz.prog.types.size := row48; omega⟩
theorem lits3 (d : Nat) {z : Int} (h : (Lit.int .i64 z).wf = true) : Tryz.prog.keyLits (d + 1) 3 [.int .i64 z] = some [.int .i64 z] := by
  simp [Program.keyLits, Tryz.underlying3, h]
theorem lits5 (d : Nat) {z : Int} (h : (Lit.int .u8 z).wf = true) : Tryz.prog.keyLits (d + 1) 5 [.int .u8 z] = some [.int .u8 z] := by
  simp [Program.keyLits, Tryz.underlying5, h]
theorem lits39 (d : Nat) {z : Int} (h : (Lit.int .u32 z).wf = true) : Tryz.prog.keyLits (d + 1) 36 [.int .u32 z] = some [.int .u32 z] := by
  simp [Program.keyLits, Tryz.underlying36, h]
theorem mapM_some {α β : Type} {f : α → Option β} : ∀ {l : List α}, (∀ x ∈ l, ∃ y, f x = some y) → ∃ ys, l.mapM f = some ys
  | [], _ => ⟨[], rfl⟩
  | x :: r, h => by
    obtain ⟨y, hy⟩ := h x (by simp)
    obtain ⟨ys, hys⟩ := mapM_some (fun z hz => h z (by simp [hz])) (l := r)
    exact ⟨y :: ys, by simp [List.mapM_cons, hy, hys]⟩
theorem nof36 : Tryz.prog.cellsOf 33 = 16 := by kernel_rfl
theorem nof5 : Tryz.prog.cellsOf 5 = 1 := by kernel_rfl
theorem nof38 : Tryz.prog.cellsOf 35 = 17 := by kernel_rfl
theorem nof3 : Tryz.prog.cellsOf 3 = 1 := by kernel_rfl
theorem nof39 : Tryz.prog.cellsOf 36 = 1 := by kernel_rfl
theorem lits36 (d : Nat) {l : List Int} (h : l.length = 16) (hb : Bytes l) : ∃ ls, Tryz.prog.keyLits (d + 2) 33 (l.map (Value.int .u8)) = some ls := by
  unfold Program.keyLits
  simp only [Tryz.underlying33, List.length_map, h, nof36, if_pos]
  obtain ⟨ys, hys⟩ : ∃ ys, (List.range 16).mapM (fun i => Tryz.prog.keyLits (d + 1) 5 (((l.map (Value.int .u8)).drop (i * Tryz.prog.cellsOf 5)).take (Tryz.prog.cellsOf 5))) = some ys := by
    refine mapM_some fun i hi => ?_
    have hi' : i < l.length := by rw [h]; simpa using hi
    rw [nof5, Nat.mul_one, List.drop_eq_getElem_cons (by simpa using hi')]
    simp only [List.take_succ_cons, List.take_zero, List.getElem_map]
    have hz := hb (l[i]'hi') (List.getElem_mem _)
    exact ⟨_, lits5 d (by simp [Lit.wf]; exact ⟨by have : IntKind.u8.min = 0 := rfl; omega, by have : IntKind.u8.max = 255 := rfl; omega⟩)⟩
  rw [hys]
  exact ⟨_, rfl⟩
theorem lits38 (d : Nat) {v : Int} {l : List Int} (hv : (Lit.int .i64 v).wf = true) (h : l.length = 16) (hb : Bytes l) : ∃ ls, Tryz.prog.keyLits (d + 3) 35 (cellsA v l) = some ls := by
  obtain ⟨ls, hls⟩ := lits36 d h hb
  have h3 := lits3 (d + 1) hv
  have hl : (cellsA v l).length = 17 := by simp [cellsA, h]
  unfold Program.keyLits
  simp only [Tryz.underlying35, hl, nof38]
  rw [if_pos ⟨trivial, by simp⟩]
  simp only [List.mapM_cons, List.mapM_nil, nof3, nof36]
  have e1 : ((cellsA v l).drop 0).take 1 = [.int .i64 v] := by simp [cellsA]
  have e2 : ((cellsA v l).drop 1).take 16 = l.map (Value.int .u8) := by
    simp only [cellsA, List.drop_succ_cons, List.drop_zero]
    rw [List.take_of_length_le (by simp [h])]
  rw [e1, e2, h3, hls]
  exact ⟨_, rfl⟩
theorem wf64 {z : Int} (h : i64ok z) : (Lit.int .i64 z).wf = true := by
  unfold i64ok at h
  simp [Lit.wf]
  exact ⟨by have : IntKind.i64.min = -9223372036854775808 := rfl; omega, h.2⟩
theorem wf32' {z : Int} (h0 : 0 ≤ z) (h1 : z ≤ 4294967295) : (Lit.int .u32 z).wf = true := by
  simp [Lit.wf]
  exact ⟨by have : IntKind.u32.min = 0 := rfl; omega, by have : IntKind.u32.max = 4294967295 := rfl; omega⟩
theorem lits48 (d : Nat) {p : Pk} (h : Wf p) : ∃ ls, Tryz.prog.keyLits (d + 4) 55 (listK p) = some ls := by
  obtain ⟨l1, hl1⟩ := lits38 d (wf64 h.sv) h.sl h.sb
  obtain ⟨l2, hl2⟩ := lits38 d (wf64 h.dv) h.dl h.db
  have h3 := lits3 (d + 2) (wf64 h.v)
  have h4 := lits3 (d + 2) (wf64 h.proto)
  have h5 := lits39 (d + 2) (wf32' h.id0 h.id1)
  have hs : (cellsA p.sv p.sb).length = 17 := by simp [cellsA, h.sl]
  have hd : (cellsA p.dv p.db).length = 17 := by simp [cellsA, h.dl]
  have hl : (listK p).length = 37 := by simp [listK, hs, hd]
  have e1 : ((listK p).drop 0).take 1 = [.int .i64 p.v] := by simp [listK]
  have e2 : ((listK p).drop 1).take 17 = cellsA p.sv p.sb := by
    simp only [listK, List.drop_succ_cons, List.drop_zero]
    rw [List.take_append_of_le_length (by omega), List.take_of_length_le (by omega)]
  have e3 : ((listK p).drop 18).take 17 = cellsA p.dv p.db := by
    simp only [listK, List.drop_succ_cons]
    rw [List.drop_append_of_le_length (by omega), List.drop_of_length_le (by omega), List.nil_append, List.take_append_of_le_length (by omega), List.take_of_length_le (by omega)]
  have e4 : ((listK p).drop 35).take 1 = [.int .i64 p.proto] := by
    simp only [listK, List.drop_succ_cons]
    rw [List.drop_append, List.drop_of_length_le (by omega), List.nil_append, hs, List.drop_append, List.drop_of_length_le (by omega), List.nil_append, hd]
    rfl
  have e5 : ((listK p).drop 36).take 1 = [.int .u32 p.id] := by
    simp only [listK, List.drop_succ_cons]
    rw [List.drop_append, List.drop_of_length_le (by omega), List.nil_append, hs, List.drop_append, List.drop_of_length_le (by omega), List.nil_append, hd]
    rfl
  unfold Program.keyLits
  simp only [Tryz.underlying55, hl, nof48]
  rw [if_pos ⟨trivial, by simp⟩]
  simp only [List.mapM_cons, List.mapM_nil, nof3, nof38, nof39]
  rw [e1, e2, e3, e4, e5, h3, h4, h5, hl1, hl2]
  exact ⟨_, rfl⟩
theorem key_lit {p : Pk} (h : Wf p) : ∃ l, keyOf Tryz.prog 55 (.agg (csK p)) = some l := by
  obtain ⟨d, hd⟩ := size_types
  obtain ⟨ls, hls⟩ := lits48 d h
  have hf : (Value.agg (csK p)).formed Tryz.prog 55 = true := by
    simp [Value.formed, Tryz.underlying55, nof48, csK_size h.ad]
  refine ⟨.string (keyBytes ls), ?_⟩
  unfold keyOf
  rw [Tryz.underlying55]
  simp only [keyT48, hf, Bool.and_self, if_true]
  rw [hd, show (Value.agg (csK p)).cells.toList = listK p from by simp [Value.cells, csK], hls]
  rfl
theorem csK_inj {p q : Pk} (hp : Ad p) (hq : Ad q) (h : csK p = csK q) : kyB p q = true := by
  have h1 : listK p = listK q := by simpa [csK] using congrArg Array.toList h
  unfold listK cellsA at h1
  simp only [List.cons_append, List.cons.injEq, Value.int.injEq, true_and] at h1
  obtain ⟨a1, a2, a3⟩ := h1
  have b := List.append_inj a3 (by simp [hp.1, hq.1])
  obtain ⟨b1, b2⟩ := b
  simp only [List.cons.injEq, Value.int.injEq, true_and] at b2
  obtain ⟨c1, c2⟩ := b2
  obtain ⟨d1, d2⟩ := List.append_inj c2 (by simp [hp.2, hq.2])
  simp only [List.cons.injEq, Value.int.injEq, true_and, and_true] at d2
  have inj : ∀ a b : Int, Value.int IntKind.u8 a = Value.int IntKind.u8 b → a = b := fun a b h => by simpa using h
  have e1 := (List.map_inj_right inj).1 b1
  have e2 := (List.map_inj_right inj).1 d1
  simp [kyB, a1, a2, e1, c1, e2, d2.1, d2.2]
theorem csK_of {p q : Pk} (h : kyB p q = true) : csK p = csK q := by
  simp only [kyB, Bool.and_eq_true, decide_eq_true_eq] at h
  obtain ⟨h1, ⟨h2, h3⟩, ⟨h4, h5⟩, h6, h7⟩ := h
  unfold csK listK
  rw [h1, h2, h3, h4, h5, h6, h7]
theorem lit_ky {p q : Pk} (hp : Wf p) (hq : Wf q) {l m : Lit} (h1 : keyOf Tryz.prog 55 (.agg (csK p)) = some l) (h2 : keyOf Tryz.prog 55 (.agg (csK q)) = some m) : l = m ↔ kyB p q = true := by
  constructor
  · intro e
    subst e
    have := keyed48.inj h1 h2
    simp only [Value.agg.injEq] at this
    exact csK_inj hp.ad hq.ad this
  · intro h
    rw [csK_of h, h2] at h1
    simpa using h1.symm
/-! The map. -/
def rdE (v : Value) : Option (DataW Unit × List MemPlace) :=
  match v with
  | .pointer none => some (.lit (.int .i64 (-1)), [])
  | .pointer (some ⟨g, 0, none⟩) => some (.lit (.int .i64 (g : Int)), [])
  | _ => none
def ptrE : Option Nat → Value
  | none => .pointer none
  | some g => .pointer (some ⟨g, 0, none⟩)
def encE : Option Nat → DataW Unit
  | none => .lit (.int .i64 (-1))
  | some g => .lit (.int .i64 (g : Int))
theorem rdE_of (o : Option Nat) : rdE (ptrE o) = some (encE o, []) := by cases o <;> rfl
theorem rdE_inv {v : Value} {o : Option Nat} {ps : List MemPlace} (h : rdE v = some (encE o, ps)) : v = ptrE o := by
  unfold rdE at h
  split at h
  · simp only [Option.some.injEq, Prod.mk.injEq] at h
    cases o with
    | none => rfl
    | some g => exfalso; have := h.1; simp [encE] at this
  · rename_i g
    simp only [Option.some.injEq, Prod.mk.injEq] at h
    cases o with
    | none => exfalso; have := h.1; simp [encE] at this
    | some k =>
      have := h.1
      simp [encE] at this
      have e : g = k := by omega
      rw [e]; rfl
  · simp at h
theorem zero66 (w : World) : (zeroValue 83).run Tryz.prog w = .ok (.pointer none) w := by kernel_rfl
theorem ownsMap_tight {w : World} {b n : Nat} {D : DataW Unit} (h : w.ownsMap Tryz.prog 55 rdE b n D) : w.ownsMap Tryz.prog 55 rdE b (Maps.size D) D := by
  have hle := h.size_le
  obtain ⟨es, clock, hb, F, hs, rfl⟩ := h
  refine ⟨es, clock, hb, F, ?_, rfl⟩
  rw [Maps.size_eq, length_read]
  exact Nat.le_refl _
def MapT (w : World) (b n : Nat) (f : Pk → Option Nat) : Prop :=
  ∃ D : DataW Unit, w.ownsMap Tryz.prog 55 rdE b n D ∧ Maps.size D = n ∧ ∀ p, Wf p → ∀ l, keyOf Tryz.prog 55 (.agg (csK p)) = some l → D.atKey l (encE none) = encE (f p) ∧ Maps.has D l = (f p).isSome
theorem MapT.made (w : World) : MapT (w.alloc (.map #[] 0)) w.heap.size 0 (fun _ => none) := ⟨.map [], World.ownsMap_made w _ _ _, rfl, fun p _ l _ => ⟨rfl, rfl⟩⟩
theorem MapT.lt {w : World} {b n : Nat} {f : Pk → Option Nat} (h : MapT w b n f) : b < w.heap.size := by obtain ⟨D, h, -⟩ := h; exact h.lt
theorem MapT.away {S : List Nat} {w w' : World} {b n : Nat} {f : Pk → Option Nat} (h : MapT w b n f) (hw : Away S w w') (hb : b ∉ S) : MapT w' b n f := by
  obtain ⟨D, ⟨es, c, h1, h2⟩, h3⟩ := h
  exact ⟨D, ⟨es, c, hw.keep hb h1, h2⟩, h3⟩
theorem MapT.on {w w' : World} {b n : Nat} {f : Pk → Option Nat} (h : MapT w b n f) (hw : Away [] w w') : MapT w' b n f := h.away hw (by simp)
theorem MapT.look {w : World} {b n : Nat} {f : Pk → Option Nat} (h : MapT w b n f) {p : Pk} (hp : Wf p) :
    (Instr.lookup 76 (.map (some b)) (.agg (csK p)) false).run Tryz.prog w = .ok (ptrE (f p)) w := by
  obtain ⟨D, h1, -, h2⟩ := h
  obtain ⟨l, hl⟩ := key_lit hp
  obtain ⟨v, ps, hrun, hv⟩ := h1.lookup keyed48 Tryz.underlying76 (zero66 w) (rdE_of none) hl
  rw [(h2 p hp l hl).1] at hv
  rw [hrun, rdE_inv hv]
theorem MapT.look_ok {w : World} {b n : Nat} {f : Pk → Option Nat} (h : MapT w b n f) {p : Pk} (hp : Wf p) :
    (Instr.lookup 76 (.map (some b)) (.agg (csK p)) true).run Tryz.prog w = .ok (.tuple #[ptrE (f p), .bool (f p).isSome]) w := by
  obtain ⟨D, h1, -, h2⟩ := h
  obtain ⟨l, hl⟩ := key_lit hp
  obtain ⟨v, ps, hrun, hv⟩ := h1.look_ok keyed48 Tryz.underlying76 (zero66 w) (rdE_of none) hl
  rw [(h2 p hp l hl).1] at hv
  rw [hrun, rdE_inv hv, (h2 p hp l hl).2]
theorem MapT.put {w : World} {b n : Nat} {f : Pk → Option Nat} (h : MapT w b n f) (hn : n < maxLen) {p : Pk} (hp : Wf p) (g : Nat) :
    ∃ w', (Instr.mapUpdate 76 (.map (some b)) (.agg (csK p)) (.pointer (some ⟨g, 0, none⟩))).run Tryz.prog w = .ok () w' ∧ MapT w' b (if (f p).isSome then n else n + 1) (fun q => if kyB q p = true then some g else f q) ∧ Away [b] w w' := by
  obtain ⟨D, h1, hsz, h2⟩ := h
  obtain ⟨l, hl⟩ := key_lit hp
  have hmap : Maps.IsMap D := h1.isMap
  have htidy := h1.tidy keyed48
  obtain ⟨w', hrun, r1, r2⟩ := h1.store keyed48 Tryz.underlying76 hn hl (rdE_of (some g))
  have hs : Maps.size (D.put l (encE (some g))) = if (f p).isSome then n else n + 1 := by rw [Maps.size_put htidy, (h2 p hp l hl).2, hsz]
  refine ⟨w', hrun, ⟨_, by have := ownsMap_tight r1; rw [hs] at this; exact this, hs, fun q hq m hm => ?_⟩, (Away.refl _ _).grown r2.grown (fun x hx => .inl (by simp at hx; simp [hx]))⟩
  dsimp only
  by_cases he : m = l
  · subst he
    rw [Maps.atKey_put_same hmap (keyed48.key hl), Maps.has_put_same hmap (keyed48.key hl), if_pos ((lit_ky hq hp hm hl).1 rfl)]
    exact ⟨rfl, rfl⟩
  · rw [Maps.atKey_put_other he, Maps.has_put_other he, if_neg (fun hk => he ((lit_ky hq hp hm hl).2 hk))]
    exact h2 q hq m hm
theorem MapT.del {w : World} {b n : Nat} {f : Pk → Option Nat} (h : MapT w b n f) {p : Pk} (hp : Wf p) (ty : TypeId) :
    ∃ w', (Builtin.delete_ #[76, 55] ty #[.map (some b), .agg (csK p)]).run Tryz.prog w = .ok (.tuple #[]) w' ∧ MapT w' b (n - if (f p).isSome then 1 else 0) (fun q => if kyB q p = true then none else f q) ∧ Away [b] w w' := by
  obtain ⟨D, h1, hsz, h2⟩ := h
  obtain ⟨l, hl⟩ := key_lit hp
  have htidy := h1.tidy keyed48
  obtain ⟨w', hrun, r1, r2⟩ := h1.drop keyed48 Tryz.underlying76 hl ty
  have hs : Maps.size (D.del l) = n - if (f p).isSome then 1 else 0 := by
    have := Maps.size_del (k := l) htidy
    rw [(h2 p hp l hl).2, hsz] at this
    omega
  refine ⟨w', hrun, ⟨_, by have := ownsMap_tight r1; rw [hs] at this; exact this, hs, fun q hq m hm => ?_⟩, (Away.refl _ _).grown r2.grown (fun x hx => .inl (by simp at hx; simp [hx]))⟩
  dsimp only
  by_cases he : m = l
  · subst he
    rw [Maps.atKey_del_same, Maps.has_del_same, if_pos ((lit_ky hq hp hm hl).1 rfl)]
    exact ⟨rfl, rfl⟩
  · rw [Maps.atKey_del_other he, Maps.has_del_other he, if_neg (fun hk => he ((lit_ky hq hp hm hl).2 hk))]
    exact h2 q hq m hm
end Go.Proofs.YtkccpidgeecemaaGreatDoor
namespace Go.Proofs.YtkccpidgeecemaaGreatDoor.K
open Go.ChangeShapes Go.WideShapes Go.ChangeAt Go.RowKit
set_option linter.unusedVariables false
set_option linter.unusedSimpArgs false
set_option maxRecDepth 20000
def LstK (w : World) (v : Value) (ks : List Pk) : Prop := w.ownsRow 0 55 37 v ks.length (ks.flatMap listK)
theorem flatK_len : ∀ ks : List Pk, (∀ x ∈ ks, Ad x) → (ks.flatMap listK).length = ks.length * 37
  | [], _ => rfl
  | x :: r, h => by rw [List.flatMap_cons, List.length_append, flatK_len r (fun y hy => h y (by simp [hy])), listK_len (h x (by simp)), List.length_cons]; omega
theorem flatK_get : ∀ (xs : List Pk) (i : Nat) (x : Pk), (∀ x ∈ xs, Ad x) → xs[i]? = some x → ∀ j v, (listK x)[j]? = some v → (xs.flatMap listK)[i * 37 + j]? = some v
  | y :: r, 0, x, hA, h, j, v, hj => by
    simp at h; subst h
    rw [List.flatMap_cons, Nat.zero_mul, Nat.zero_add, List.getElem?_append_left (lt_of_get hj), hj]
  | y :: r, i + 1, x, hA, h, j, v, hj => by
    have := flatK_get r i x (fun z hz => hA z (by simp [hz])) (by simpa using h) j v hj
    have hl : (listK y).length = 37 := listK_len (hA y (by simp))
    rw [List.flatMap_cons, List.getElem?_append_right (by omega), hl, show (i + 1) * 37 + j - 37 = i * 37 + j from by omega, this]
theorem flatK_one (l : List Pk) : ∀ u ∈ l.flatMap listK, u.oneCell' = true := fun u hu => by
  obtain ⟨p, -, hp⟩ := List.mem_flatMap.1 hu
  exact (Array.all_eq_true_iff_forall_mem.1 (csK_one p)) u (by simpa [csK] using hp)
theorem LstK.away {S : List Nat} {w w' : World} {v : Value} {xs : List Pk} (h : LstK w v xs) (hw : Away S w w') (ha : ∀ k, v.ownBlock = some k → k ∉ S) : LstK w' v xs := by
  obtain ⟨h1, h2⟩ := h
  refine ⟨h1, ?_⟩
  rcases h2 with h2 | ⟨g, cap, cur, rfl, hg, hh, r⟩
  · exact .inl h2
  · exact .inr ⟨g, cap, cur, rfl, hg, hw.keep (ha g rfl) hh, r⟩
theorem LstK.on {w w' : World} {v : Value} {xs : List Pk} (h : LstK w v xs) (hw : Away [] w w') : LstK w' v xs := h.away hw (by simp)
theorem LstK.nil (w : World) : LstK w (.slice none 0 0) [] := World.ownsRow_nil _ _ _ _
theorem LstK.lt {w : World} {v : Value} {xs : List Pk} (h : LstK w v xs) : ∀ k, v.ownBlock = some k → k < w.heap.size := fun k hk => (World.ownsRow.lt h k hk).2
theorem LstK.shp {w : World} {v : Value} {xs : List Pk} (h : LstK w v xs) : (v = .slice none 0 0 ∧ xs = []) ∨ ∃ g cap, v = .slice (some ⟨g, 0, none⟩) xs.length cap := by
  rcases h.2 with ⟨rfl, h2⟩ | ⟨g, cap, cur, rfl, -⟩
  · exact .inl ⟨rfl, by simpa using h2⟩
  · exact .inr ⟨g, cap, rfl⟩
theorem LstK.at {w : World} {g cap : Nat} {xs : List Pk} (h : LstK w (.slice (some ⟨g, 0, none⟩) xs.length cap) xs) (hA : ∀ x ∈ xs, Ad x) {i : Nat} {x : Pk} (hx : xs[i]? = some x) : w.rangeAt g (0 + i * 37) (listK x) := fun j v hj => by
  have hi := lt_of_get hx
  have hj' : j < 37 := by have := lt_of_get hj; rwa [listK_len (hA x (List.mem_of_getElem? hx))] at this
  rw [Nat.zero_add, World.ownsRow.cellAt h (i * 37 + j) (by omega)]
  exact flatK_get xs i x hA hx j v hj
theorem sizeK (wx : World) : (sizeOf (Tryz.prog.elem 31)).run Tryz.prog wx = .ok 37 wx := by kernel_rfl
theorem underK : Tryz.prog.underlying 31 = some (.slice (Tryz.prog.elem 31)) := by kernel_rfl
theorem infoK : (Tryz.prog.info? 55).map (fun i => (i.zero, i.size, i.bytes)) = some (some (.agg zK), 37, 72) := by kernel_rfl
theorem slice_lh (a A : Option Addr) (len cap k m : Nat) (lo hi : Int) (hA : A = if cap = k then a else a.map (·.add (k * 37))) (hlo : lo = k) (hhi : hi = k + m) (hm : k + m ≤ cap) (wx : World) :
    (Instr.sliceAt 31 (.slice a len cap) (some (.int .i64 lo)) (some (.int .i64 hi)) none).run Tryz.prog wx = .ok (.slice A m (cap - k)) wx := by
  subst hlo; subst hhi; subst hA
  rw [run_sliceAt_slice (h := underK), run_slice_lh (ht := underK) (h0 := by omega) (h1 := by omega) (h2 := by omega), sizeK]
  simp only [Result.andThen, sliced]
  rw [show (k : Int).toNat = k from by omega, show ((k : Int) + m).toNat = k + m from by omega, show k + m - k = m from by omega]
theorem slice_l (a A : Option Addr) (len cap k : Nat) (lo : Int) (hA : A = if cap = k then a else a.map (·.add (k * 37))) (hlo : lo = k) (hm : k ≤ len) (wx : World) :
    (Instr.sliceAt 31 (.slice a len cap) (some (.int .i64 lo)) none none).run Tryz.prog wx = .ok (.slice A (len - k) (cap - k)) wx := by
  subst hlo; subst hA
  rw [run_sliceAt_slice (h := underK), run_slice_l (ht := underK) (h0 := by omega) (h1 := by omega), sizeK]
  simp only [Result.andThen, sliced]
  rw [show (k : Int).toNat = k from by omega]
theorem slice_h (a : Option Addr) (len cap m : Nat) (hi : Int) (hhi : hi = m) (hm : m ≤ cap) (wx : World) :
    (Instr.sliceAt 31 (.slice a len cap) none (some (.int .i64 hi)) none).run Tryz.prog wx = .ok (.slice a m cap) wx := by
  subst hhi
  rw [run_sliceAt_slice (h := underK), run_slice_h (ht := underK) (h0 := by omega) (h2 := by omega), sizeK]
  simp only [Result.andThen, sliced]
  rw [show (m : Int).toNat = m from by omega]
  simp [Addr.add]
def Blk (w : World) (g cap : Nat) (cur : List Value) : Prop := w.heap[g]? = some (.cells cur.toArray 55 (0, 0)) ∧ cur.length = cap * 37
theorem Blk.away {S : List Nat} {w w' : World} {g cap : Nat} {cur : List Value} (h : Blk w g cap cur) (hw : Away S w w') (hg : g ∉ S) : Blk w' g cap cur := ⟨hw.keep hg h.1, h.2⟩
theorem Blk.lst {w : World} {g n cap : Nat} {l : List Pk} {cur : List Value} (h : Blk w g cap cur) (hA : ∀ x ∈ l, Ad x) (hc : cap ≤ maxLen) (hn : l.length = n) (hnc : n ≤ cap) (ht : cur.take (n * 37) = l.flatMap listK) : LstK w (.slice (some ⟨g, 0, none⟩) n cap) l := by
  subst hn
  exact ⟨flatK_len l hA, .inr ⟨g, cap, cur.toArray, rfl, Nat.zero_le _, h.1, hnc, hc, by simpa using h.2, by simpa using ht⟩⟩
theorem LstK.blk {w : World} {g n cap : Nat} {l : List Pk} (h : LstK w (.slice (some ⟨g, 0, none⟩) n cap) l) : ∃ cur, Blk w g cap cur ∧ cap ≤ maxLen ∧ n ≤ cap ∧ cur.take (n * 37) = l.flatMap listK ∧ l.length = n := by
  rcases h.2 with ⟨h2, _⟩ | ⟨g', cap', cur, he, hg, hh, hn, hc, hs, ht⟩
  · simp at h2
  · simp only [Value.slice.injEq, Option.some.injEq, Addr.mk.injEq] at he
    obtain ⟨⟨rfl, -, -⟩, rfl, rfl⟩ := he
    exact ⟨cur.toList, ⟨by simpa using hh, by simpa using hs⟩, hc, hn, ht, rfl⟩
theorem Blk.cell {w : World} {g cap : Nat} {cur : List Value} (h : Blk w g cap cur) (i : Nat) : w.cell? ⟨g, i, none⟩ = cur[i]? := by rw [cell_of_block h.1]; simp
def fromA (g cap o : Nat) : Option Addr := if cap = o then some ⟨g, 0, none⟩ else some ⟨g, o * 37, none⟩
theorem fromA_eq (g cap o : Nat) : fromA g cap o = if cap = o then some ⟨g, 0, none⟩ else (some (⟨g, 0, none⟩ : Addr)).map (·.add (o * 37)) := by
  unfold fromA; simp [add_plain]
def over (cur : List Value) (o : Nat) (xs : List Value) : List Value := cur.take (o * 37) ++ xs ++ cur.drop (o * 37 + xs.length)
theorem over_len {cur xs : List Value} {o : Nat} (h : o * 37 + xs.length ≤ cur.length) : (over cur o xs).length = cur.length := by
  unfold over; simp; omega
theorem over_nil (cur : List Value) (o : Nat) : over cur o [] = cur := by simp [over]
theorem over_get {cur xs : List Value} {o : Nat} (h : o * 37 + xs.length ≤ cur.length) (i : Nat) : (over cur o xs)[i]? = if i < o * 37 then cur[i]? else if i < o * 37 + xs.length then xs[i - o * 37]? else cur[i]? := by
  unfold over
  have hl : (cur.take (o * 37)).length = o * 37 := by simp; omega
  by_cases h1 : i < o * 37
  · rw [if_pos h1, List.append_assoc, List.getElem?_append_left (by omega), List.getElem?_take, if_pos h1]
  · rw [if_neg h1, List.append_assoc, List.getElem?_append_right (by omega), hl]
    by_cases h2 : i < o * 37 + xs.length
    · rw [if_pos h2, List.getElem?_append_left (by omega)]
    · rw [if_neg h2, List.getElem?_append_right (by omega), List.getElem?_drop]
      congr 1; omega
theorem Blk.set {w : World} {g cap o : Nat} {cur xs : List Value} (h : Blk w g cap cur) (hf : o * 37 + xs.length ≤ cur.length) (h1 : ∀ v ∈ xs, v.oneCell' = true) :
    (storeCells ⟨g, o * 37, none⟩ xs 0).run Tryz.prog w = .ok () (w.setRow g (over cur o xs).toArray) ∧ Blk (w.setRow g (over cur o xs).toArray) g cap (over cur o xs) := by
  have := run_storeCells_at Tryz.prog g (o * 37) 55 xs 0 cur.toArray w h.1 (by simpa using hf) h1
  refine ⟨by simpa [over] using this, setRow_heap w g _ _ 55 _ h.1, by rw [over_len hf]; exact h.2⟩
def noughts (n : Nat) : List Value := (Builtin.zeroCells (Value.agg zK).cells n).toList
theorem zK_size : zK.size = 37 := by kernel_rfl
theorem noughts_len (n : Nat) : (noughts n).length = n * 37 := by simp [noughts, Builtin.zeroCells, Value.cells, zK_size]
theorem zK_one : zK.all (·.oneCell') = true := by kernel_rfl
theorem noughts_one (n : Nat) : ∀ v ∈ noughts n, v.oneCell' = true := by
  intro v hv
  simp only [noughts, Builtin.zeroCells, Value.cells, Array.toList_map, List.mem_map] at hv
  obtain ⟨i, -, rfl⟩ := hv
  have h1 : i % zK.size < zK.size := Nat.mod_lt _ (by rw [zK_size]; omega)
  have h2 := Array.all_eq_true.1 zK_one (i % zK.size) h1
  rw [getElem!_pos zK _ h1]
  exact h2
theorem run_clearB (w : World) (ty : TypeId) (g cap o n c : Nat) (cur : List Value) (D : Option Addr) (hD : D = fromA g cap o) (hb : Blk w g cap cur) (hn : o + n ≤ cap) :
    ∃ w', (Builtin.clear_ #[31] ty #[.slice D n c]).run Tryz.prog w = .ok (.tuple #[]) w' ∧ Blk w' g cap (over cur o (noughts n)) ∧ Away [g] w w' := by
  obtain ⟨i0, hi, hz0, hz1, hz2⟩ := info_parts infoK
  subst hD
  rcases n with _ | n
  · refine ⟨w, ?_, by rw [show noughts 0 = [] from List.eq_nil_of_length_eq_zero (by rw [noughts_len]), over_nil]; exact hb, Away.refl _ _⟩
    unfold fromA
    split <;> simp [Builtin.clear_, run_underlying Tryz.underlying31]
  · obtain ⟨r1, r2⟩ := hb.set (o := o) (xs := noughts (n + 1)) (by have := hb.2; rw [noughts_len]; omega) (noughts_one _)
    refine ⟨_, ?_, r2, (Away.refl _ _).setRow (.inl (by simp)) _⟩
    unfold fromA
    rw [if_neg (by omega)]
    unfold noughts at r1
    simp [Builtin.clear_, run_underlying Tryz.underlying31, zeroValue, typeInfo, hi, hz0, r1, noughts]
theorem run_appB (w : World) (ty : TypeId) (g cap i m c : Nat) (cur xs : List Value) (ad : Addr) (hb : Blk w g cap cur) (hr : i + m ≤ cap) (hl : xs.length = m * 37) (hs : ∀ j u, xs[j]? = some u → w.cell? (ad.add j) = some u) (h1 : ∀ u ∈ xs, u.oneCell' = true) :
    ∃ w', (Builtin.append_ #[31, 31] ty #[.slice (some ⟨g, 0, none⟩) i cap, .slice (some ad) m c]).run Tryz.prog w = .ok (.slice (some ⟨g, 0, none⟩) (i + m) cap) w' ∧ Blk w' g cap (over cur i xs) ∧ Away [g] w w' := by
  obtain ⟨i0, hi, hz0, hz1, hz2⟩ := info_parts infoK
  obtain ⟨r1, r2⟩ := hb.set (o := i) (xs := xs) (by have := hb.2; omega) h1
  refine ⟨_, ?_, r2, (Away.refl _ _).setRow (.inl (by simp)) _⟩
  have hfc := run_firstCells_some (P := Tryz.prog) w 37 m ad m c xs hl hs
  simp [Builtin.append_, run_underlying Tryz.underlying31, sizeOf, typeInfo, hi, hz1, Builtin.lenOf, hr, hfc, Addr.add_lit, r1]
end Go.Proofs.YtkccpidgeecemaaGreatDoor.K
namespace Go.Proofs.YtkccpidgeecemaaGreatDoor.K
open Go.ChangeShapes Go.WideShapes Go.ChangeAt Go.RowKit
open S6 (wp_region_cls quiet_val quiet_call quiet_ld ld3 ld4 ld5 ld25 ld26 load28_run load24m_run)
set_option linter.unusedVariables false
set_option linter.unusedSimpArgs false
set_option maxRecDepth 100000
set_option maxHeartbeats 8000000 in
theorem index_c (w : World) (g cap : Nat) (ks : List Pk) (p x : Pk) (i : Nat) (h : LstK w (.slice (some ⟨g, 0, none⟩) ks.length cap) ks) (hA : ∀ x ∈ ks, Ad x) (hp : Ad p) (hl : ks.length ≤ 1000) (hx : ks[i]? = some x) (hk : kyB p x = true) (hn : ∀ j y, j < i → ks[j]? = some y → kyB p y = false) :
    Calls Tryz.prog 72 #[.slice (some ⟨g, 0, none⟩) ks.length cap, .agg (csK p)] w fun E w' => E = .returned (.int .i64 (i : Int)) ∧ Away [] w w' := by
  have HL := Lib.hid h
  have HA := Lib.hid hA
  have HP := Lib.hid hp
  have HX := Lib.hid hx
  have HK := Lib.hid hk
  have HN := Lib.hid hn
  have hi := lt_of_get hx
  obtain ⟨n, hnl⟩ : ∃ n, n = ks.length := ⟨_, rfl⟩
  rw [← hnl] at hl hi ⊢
  have HNL := Lib.hid hnl
  clear h hA hp hx hk hn hnl
  go_enter Tryz.func72, Tryz.ntmps72
  have hb3 : BoxK (w.alloc (.cells (csK p) 55)) w.heap.size (csK p) := block_new _ _
  have haw3 : Away [] w (w.alloc (.cells (csK p) 55)) := (Away.refl _ _).alloc _
  go_wp2_with fail
  obtain ⟨g3, hg3⟩ : ∃ z, z = w.heap.size := ⟨_, rfl⟩
  obtain ⟨w1, hw1⟩ : ∃ z, z = w.alloc (.cells (csK p) 55) := ⟨_, rfl⟩
  rw [← hg3, ← hw1] at hb3 ⊢
  rw [← hw1] at haw3
  have HB := Lib.hid hb3
  have HW := Lib.hid haw3
  clear hb3 haw3 hg3 hw1
  go_loopw [8] (fun v wr => ∃ k : Nat, k ≤ i ∧ v = .int .i64 (k : Int) ∧ Away [] w1 wr) (fun v _ => n - (intOf v).toNat)
  case atStart => exact ⟨0, by omega, rfl, Away.refl _ _⟩
  case round =>
    obtain ⟨k, hk, rfl, haw⟩ := hrel
    have HAW := Lib.hid haw
    clear haw
    have j1 : (k : Int) < (n : Int) := by omega
    have j2 : 0 ≤ (k : Int) := by omega
    have j3 : ((k : Int)).toNat = k := by omega
    obtain ⟨y, hy, hym⟩ := get_of (show k < ks.length by rw [← HNL.out]; omega)
    have HYA := Lib.hid (HA.out y hym)
    have HRG : Hid (w.rangeAt g (k * 37) (listK y)) := by have h := LstK.at HL.out HA.out hy; rw [Nat.zero_add] at h; exact h
    have HQ : Hid (∀ w, (Op.equalIn 10000 55 (.agg (csK p)) (.agg (csK y))).run Tryz.prog w = .ok (kyB p y) w) := fun w => by
      have h := eq78 p y HP.out HYA.out w
      rw [key_ky] at h
      exact h
    have HC : Hid (Away [] wr wr.drew) := (Away.refl _ _).drew
    have HYV : Hid (kyB p y = decide (k = i)) := by
      show _ = _
      by_cases he : k = i
      · subst he
        have h1 := HX.out
        rw [hy] at h1
        simp only [Option.some.injEq] at h1
        rw [h1, HK.out]; simp
      · rw [HN.out k y (by omega) hy]; simp [he]
    clear hy hym
    by_cases he : k = i
    · have hv : kyB p y = true := by rw [HYV.out]; simp [he]
      rw [hv] at HQ
      clear hv
      subst he
      go_wp2_with fail
      refine wp_region_cls (C := fun w' => Away [] wr w') (by kernel_rfl) (by kernel_rfl) HC.out ?_
      go_big_quiet_want; refine quiet_ld _ rfl (ad := ⟨g3, 0, none⟩) rfl (fun w' h => load29_run (range_away h (by simp) (boxK_range (HAW.out.keep (by simp) HB.out))) HP.out) ?_; go_simp; go_big_quiet_on
      iterate 3 (go_big_quiet_want; (refine quiet_val ?_ ?_ ?_; rotate_left; (intro w; go_simp; rfl); go_simp; go_big_quiet_on))
      go_big_quiet_want; refine quiet_ld _ rfl (ad := ⟨g, k * 37, none⟩) rfl (fun w' h => load29_run (range_away h (by simp) (range_away (HW.out.trans HAW.out) (by simp) HRG.out)) HYA.out) ?_; go_simp; go_big_quiet_on
      go_big_quiet_want; refine quiet_eq78 _ _ rfl (csK p) (csK y) rfl rfl true HQ.out ?_; go_simp; go_big_quiet_on
      refine wpQuiet_nil ?_
      intro V hV
      go_wp2_with fail
      go_ret
      exact ⟨rfl, (HW.out.trans HAW.out).trans hV⟩
    · have hv : kyB p y = false := by rw [HYV.out]; simp [he]
      rw [hv] at HQ
      clear hv
      go_wp2_with fail
      refine wp_region_cls (C := fun w' => Away [] wr w') (by kernel_rfl) (by kernel_rfl) HC.out ?_
      go_big_quiet_want; refine quiet_ld _ rfl (ad := ⟨g3, 0, none⟩) rfl (fun w' h => load29_run (range_away h (by simp) (boxK_range (HAW.out.keep (by simp) HB.out))) HP.out) ?_; go_simp; go_big_quiet_on
      iterate 3 (go_big_quiet_want; (refine quiet_val ?_ ?_ ?_; rotate_left; (intro w; go_simp; rfl); go_simp; go_big_quiet_on))
      go_big_quiet_want; refine quiet_ld _ rfl (ad := ⟨g, k * 37, none⟩) rfl (fun w' h => load29_run (range_away h (by simp) (range_away (HW.out.trans HAW.out) (by simp) HRG.out)) HYA.out) ?_; go_simp; go_big_quiet_on
      go_big_quiet_want; refine quiet_eq78 _ _ rfl (csK p) (csK y) rfl rfl false HQ.out ?_; go_simp; go_big_quiet_on
      refine wpQuiet_nil ?_
      intro V hV
      go_wp2_with fail
      go_roundw
      case rel => exact ⟨k + 1, by omega, by go_num, HAW.out.trans hV⟩
      case measure => simp [intOf]; omega
end Go.Proofs.YtkccpidgeecemaaGreatDoor.K
namespace Go.Proofs.YtkccpidgeecemaaGreatDoor.K
open Go.ChangeShapes Go.WideShapes Go.ChangeAt Go.RowKit
open S6 (wp_region_cls quiet_val quiet_call quiet_ld ld3 ld4 ld5 ld25 ld26 load28_run load24m_run)
set_option linter.unusedVariables false
set_option linter.unusedSimpArgs false
set_option maxRecDepth 100000
theorem flat_split (ks : List Pk) (i : Nat) : ks.flatMap listK = (ks.take i).flatMap listK ++ (ks.drop i).flatMap listK := by
  rw [← List.flatMap_append, List.take_append_drop]
theorem flat_take {ks : List Pk} (hA : ∀ x ∈ ks, Ad x) {i : Nat} (hi : i ≤ ks.length) : (ks.flatMap listK).take (i * 37) = (ks.take i).flatMap listK := by
  have hl : ((ks.take i).flatMap listK).length = i * 37 := by rw [flatK_len _ (fun x hx => hA x (List.mem_of_mem_take hx)), List.length_take]; rw [Nat.min_eq_left hi]
  rw [flat_split ks i, List.take_append_of_le_length (by omega), List.take_of_length_le (by omega)]
theorem flat_drop {ks : List Pk} (hA : ∀ x ∈ ks, Ad x) {i : Nat} (hi : i ≤ ks.length) : (ks.flatMap listK).drop (i * 37) = (ks.drop i).flatMap listK := by
  have hl : ((ks.take i).flatMap listK).length = i * 37 := by rw [flatK_len _ (fun x hx => hA x (List.mem_of_mem_take hx)), List.length_take]; rw [Nat.min_eq_left hi]
  rw [flat_split ks i, List.drop_append, List.drop_of_length_le (by omega), hl, Nat.sub_self]; simp
theorem erase_flat (ks : List Pk) (i : Nat) : (ks.eraseIdx i).flatMap listK = (ks.take i).flatMap listK ++ (ks.drop (i + 1)).flatMap listK := by
  rw [List.eraseIdx_eq_take_drop_succ, List.flatMap_append]
theorem step_appB {ops : Array Oper} {o : Oper} {a : Act} {w : World} {K : Act → World → Prop} {Q : Exit → Act → World → Prop} {E : Prop} (hg : o.guard = none) (s x : Operand) (ho : o.op = .call { callee := .builtin .append, args := #[s, x], argTypes := #[31, 31] })
    (g cap i m c : Nat) (cur xs : List Value) (ad : Addr) (hs : a.eval s = .slice (some ⟨g, 0, none⟩) i cap) (hx : a.eval x = .slice (some ad) m c) (hb : Blk w g cap cur) (hr : i + m ≤ cap) (hl : xs.length = m * 37) (hsr : ∀ j u, xs[j]? = some u → w.cell? (ad.add j) = some u) (h1 : ∀ u ∈ xs, u.oneCell' = true)
    (h : ∀ w', Blk w' g cap (over cur i xs) → Away [g] w w' → K (a.put o.dst (.slice (some ⟨g, 0, none⟩) (i + m) cap)) w') : if Region.wanted o (yielded ops a.tmps) = true then Oper.wp Tryz.prog o a w K Q else E := by
  have hw : Region.wanted o (yielded ops a.tmps) = true := by simp [Region.wanted, hg]
  rw [if_pos hw]
  obtain ⟨w', hrun, r1, r2⟩ := run_appB w o.type g cap i m c cur xs ad hb hr hl hsr h1
  unfold Oper.wp
  simp [execOp, ho, resolve, invoke, builtin, hs, hx, hrun, Result.andThen]
  exact h w' r1 r2
theorem wpList_clearB {ops : Array Oper} {rest : List Oper} {o : Oper} {a : Act} {w : World} {Q : Exit → Act → World → Prop} (hgd : o.guard = none) (s : Operand) (ho : o.op = .call { callee := .builtin .clear, args := #[s], argTypes := #[31] })
    (g cap o' n c : Nat) (cur : List Value) (D : Option Addr) (hs : a.eval s = .slice D n c) (hD : D = fromA g cap o') (hb : Blk w g cap cur) (hn : o' + n ≤ cap)
    (h : ∀ w', Blk w' g cap (over cur o' (noughts n)) → Away [g] w w' → wpList Tryz.prog ops Q rest (a.put o.dst (.tuple #[])) w') : wpList Tryz.prog ops Q (o :: rest) a w :=
  wpList_plain hgd fun K hK => by
    obtain ⟨w', hrun, r1, r2⟩ := run_clearB w o.type g cap o' n c cur D hD hb hn
    unfold Oper.wp
    simp [execOp, ho, resolve, invoke, builtin, hs, hrun, Result.andThen]
    exact hK _ _ (h w' r1 r2)
theorem del_cells {ks : List Pk} {cur : List Value} {cap i m : Nat} (hA : ∀ x ∈ ks, Ad x) (hn : ks.length = i + 1 + m) (hc : cur.length = cap * 37) (hnc : i + 1 + m ≤ cap) (ht : cur.take ((i + 1 + m) * 37) = ks.flatMap listK) :
    (over (over cur i ((ks.drop (i + 1)).flatMap listK)) (i + m) (noughts 1)).take ((i + m) * 37) = (ks.eraseIdx i).flatMap listK := by
  have hl : ((ks.drop (i + 1)).flatMap listK).length = m * 37 := by rw [flatK_len _ (fun x hx => hA x (List.mem_of_mem_drop hx)), List.length_drop, hn, show i + 1 + m - (i + 1) = m from by omega]
  have h1 : cur.take (i * 37) = (ks.take i).flatMap listK := by
    rw [← flat_take hA (by omega), ← ht, List.take_take]; congr 1; omega
  have h2 : ((ks.take i).flatMap listK).length = i * 37 := by rw [← h1, List.length_take]; omega
  rw [erase_flat]
  unfold over
  rw [h1]
  have h3 : ((ks.take i).flatMap listK ++ (ks.drop (i + 1)).flatMap listK ++ cur.drop (i * 37 + ((ks.drop (i + 1)).flatMap listK).length)).take ((i + m) * 37) = (ks.take i).flatMap listK ++ (ks.drop (i + 1)).flatMap listK := by
    rw [List.take_append_of_le_length (by rw [List.length_append, h2, hl]; omega), List.take_of_length_le (by rw [List.length_append, h2, hl]; omega)]
  rw [h3, List.append_assoc, List.take_append_of_le_length (by rw [List.length_append, h2, hl]; omega), List.take_of_length_le (by rw [List.length_append, h2, hl]; omega)]
set_option maxHeartbeats 8000000 in
theorem delete_c (w : World) (g cap : Nat) (ks : List Pk) (i m : Nat) (h : LstK w (.slice (some ⟨g, 0, none⟩) ks.length cap) ks) (hA : ∀ x ∈ ks, Ad x) (hl : ks.length ≤ 1000) (hm : ks.length = i + 1 + m) :
    Calls Tryz.prog 73 #[.slice (some ⟨g, 0, none⟩) ks.length cap, .int .i64 (i : Int), .int .i64 ((i + 1 : Nat) : Int)] w fun E w' => E = .returned (.slice (some ⟨g, 0, none⟩) (i + m) cap) ∧ LstK w' (.slice (some ⟨g, 0, none⟩) (i + m) cap) (ks.eraseIdx i) ∧ Away [g] w w' := by
  obtain ⟨cur, hb, hcm, hnc, htk, -⟩ := h.blk
  rw [hm] at hnc htk hl ⊢
  have HA := Lib.hid hA
  have HB := Lib.hid hb
  have HTK := Lib.hid htk
  have HCM := Lib.hid hcm
  have HM := Lib.hid hm
  have HXL : Hid (((ks.drop (i + 1)).flatMap listK).length = m * 37) := by show _ = _; rw [flatK_len _ (fun x hx => HA.out x (List.mem_of_mem_drop hx)), List.length_drop, hm, show i + 1 + m - (i + 1) = m from by omega]
  clear h hA hb hcm htk hm
  obtain ⟨j, hj⟩ : ∃ j, j = i + 1 := ⟨_, rfl⟩
  obtain ⟨n, hn⟩ : ∃ n, n = i + 1 + m := ⟨_, rfl⟩
  rw [← hn] at hnc hl HTK HM ⊢
  rw [← hj] at HXL ⊢
  have HJ := Lib.hid hj
  have HN := Lib.hid hn
  have f0 : n - j = m := by omega
  have f1 : 0 ≤ (i : Int) := by omega
  have f2 : (i : Int) ≤ (cap : Int) := by omega
  have f3 : (i : Int) ≤ (j : Int) := by omega
  have f4 : (j : Int) ≤ (n : Int) := by omega
  have f5 : (n : Int) ≤ (cap : Int) := by omega
  have f6 : 0 ≤ (j : Int) := by omega
  have f7 : i + m ≤ cap := by omega
  have f8 : ((i + m : Nat) : Int) ≤ (n : Int) := by omega
  have f9 : n - (i + m) = 1 := by omega
  have f10 : ¬ (cap = i + m) := by omega
  have e1b : ((i : Int) == (j : Int)) = false := by simp; omega
  have HSR : Hid (∀ k u, ((ks.drop j).flatMap listK)[k]? = some u → w.drew.cell? ⟨g, j * 37 + k, none⟩ = some u) := fun k u hk => by
    have hk' : k < m * 37 := by have := (List.getElem?_eq_some_iff.1 hk).1; rw [HXL.out] at this; exact this
    show w.cell? _ = _
    rw [HB.out.cell]
    rw [← flat_drop HA.out (by rw [HM.out]; omega), ← HTK.out, List.getElem?_drop, List.getElem?_take] at hk
    rw [if_pos (by omega)] at hk
    exact hk
  have HB' : Hid (Blk w.drew g cap cur) := HB.out
  have HONE : Hid (∀ u ∈ (ks.drop j).flatMap listK, u.oneCell' = true) := flatK_one _
  have HDC : Hid ((over (over cur i ((ks.drop j).flatMap listK)) (i + m) (noughts 1)).take ((i + m) * 37) = (ks.eraseIdx i).flatMap listK) := by
    rw [hj]
    exact del_cells HA.out (by rw [HM.out, hn]) HB.out.2 (by omega) (by rw [← hn]; exact HTK.out)
  clear hj hn
  go_enter Tryz.func73, Tryz.ntmps73
  go_wp2_with fail
  by_cases hce : cap = j
  · have HX0 : Hid ((ks.drop j).flatMap listK = []) := List.eq_nil_of_length_eq_zero (by rw [HXL.out]; have h1 := HJ.out; have h2 := HN.out; omega)
    subst hce
    refine wp_region_held_drew (S := fun _ => True) (by kernel_rfl) trivial (fun hHeld => ?_)
    refine tkA 0 (v := ?_) (by simp only [gA, g1, g0]; rfl) (by kernel_rfl) (by exact fun _ _ _ h => h) (Or.inl ⟨by rfl, ?_⟩) (by assumption) ?_; rotate_left; focus (intro wq hSw; (try dsimp only at hSw); go_simp; all_goals (with_reducible rfl))
    try simp only [Act.put, sA, s0, s1]
    refine tkA 1 (v := ?_) (by simp only [gA, g1, g0]; rfl) (by kernel_rfl) (by exact fun _ _ _ h => h) (Or.inl ⟨by rfl, ?_⟩) (by assumption) ?_; rotate_left; focus (intro wq hSw; (try dsimp only at hSw); go_simp; all_goals (with_reducible rfl))
    try simp only [Act.put, sA, s0, s1]
    refine tkA 2 (v := ?_) (by simp only [gA, g1, g0]; rfl) (by kernel_rfl) (by exact fun _ _ _ h => h) (Or.inl ⟨by rfl, ?_⟩) (by assumption) ?_; rotate_left; focus (intro wq hSw; (try dsimp only at hSw); go_simp; all_goals (with_reducible rfl))
    try simp only [Act.put, sA, s0, s1]
    refine tkA 3 (v := ?_) (by simp only [gA, g1, g0]; rfl) (by kernel_rfl) (by exact fun _ _ _ h => h) (Or.inl ⟨by rfl, ?_⟩) (by assumption) ?_; rotate_left; focus (intro wq hSw; (try dsimp only at hSw); go_simp; all_goals (with_reducible rfl))
    try simp only [Act.put, sA, s0, s1]
    refine tkA 4 (v := ?_) (by simp only [gA, g1, g0]; rfl) (by kernel_rfl) (by exact fun _ _ _ h => h) (Or.inl ⟨by rfl, ?_⟩) (by assumption) ?_; rotate_left; focus (intro wq hSw; (try dsimp only at hSw); go_simp; all_goals (with_reducible rfl))
    try simp only [Act.put, sA, s0, s1]
    refine tkA 5 (v := ?_) (by simp only [gA, g1, g0]; rfl) (by kernel_rfl) (by exact fun _ _ _ h => h) (Or.inl ⟨by rfl, ?_⟩) (by assumption) ?_; rotate_left; focus (intro wq hSw; (try dsimp only at hSw); go_simp; all_goals (with_reducible rfl))
    try simp only [Act.put, sA, s0, s1]
    refine wpAnyH_ready (rs := [6]) (by kernel_rfl) (by simp) ?_
    refine AllReadyH.cons (by simp only [gA, g1, g0]; rfl) (fun K hK => ?_) AllReadyH.nil
    refine step_appB rfl _ _ rfl g cap i m _ cur ((ks.drop cap).flatMap listK) ⟨g, 0, none⟩ rfl rfl (by exact HB'.out) (by omega) (by exact HXL.out) (fun k u hk => by rw [HX0.out] at hk; simp at hk) (by exact HONE.out) ?_
    intro w2 hb2 haw2
    have HB2 := Lib.hid hb2
    have HA2 : Hid (Away [g] w w2) := ⟨haw2.os, haw2.tape, haw2.output, haw2.size, haw2.block⟩
    clear hb2 haw2
    refine hK.out _ _ trivial (fun hHeld => ?_)
    clear hK K
    try simp only [Act.put, sA, s0, s1]
    refine tkA 7 (v := ?_) (by simp only [gA, g1, g0]; rfl) (by kernel_rfl) (by exact fun _ _ _ h => h) (Or.inl ⟨by rfl, ?_⟩) (by assumption) ?_; rotate_left; focus (intro wq hSw; (try dsimp only at hSw); go_simp; all_goals (with_reducible rfl))
    try simp only [Act.put, sA, s0, s1]
    refine wpAnyH_done (by kernel_rfl) ?_ _
    go_wp2_with (refine wpList_clearB rfl _ rfl g cap (i + m) (n - (i + m)) (cap - (i + m)) (over cur i ((ks.drop cap).flatMap listK)) (some ⟨g, (i + m) * 37, none⟩) rfl (by unfold fromA; rw [if_neg (by omega)]) (by exact HB2.out) (by omega) ?_; refine Hid.out ?_)
    refine Lib.hid ?_
    intro w3 hb3 haw3
    have HB3 := Lib.hid hb3
    replace HA2 := Lib.hid (HA2.out.trans haw3)
    clear hb3 haw3
    go_wp2_with fail
    go_ret
    exact ⟨rfl, HB3.out.lst (fun x hx => HA.out x (List.mem_of_mem_eraseIdx hx)) HCM.out (by rw [List.length_eraseIdx, if_pos (by rw [HM.out]; have h1 := HN.out; omega), HM.out]; have h1 := HN.out; omega) (by omega) HDC.out, HA2.out⟩
  · have hce2 := hce
    refine wp_region_held_drew (S := fun _ => True) (by kernel_rfl) trivial (fun hHeld => ?_)
    refine tkA 0 (v := ?_) (by simp only [gA, g1, g0]; rfl) (by kernel_rfl) (by exact fun _ _ _ h => h) (Or.inl ⟨by rfl, ?_⟩) (by assumption) ?_; rotate_left; focus (intro wq hSw; (try dsimp only at hSw); go_simp; all_goals (with_reducible rfl))
    try simp only [Act.put, sA, s0, s1]
    refine tkA 1 (v := ?_) (by simp only [gA, g1, g0]; rfl) (by kernel_rfl) (by exact fun _ _ _ h => h) (Or.inl ⟨by rfl, ?_⟩) (by assumption) ?_; rotate_left; focus (intro wq hSw; (try dsimp only at hSw); go_simp; all_goals (with_reducible rfl))
    try simp only [Act.put, sA, s0, s1]
    refine tkA 2 (v := ?_) (by simp only [gA, g1, g0]; rfl) (by kernel_rfl) (by exact fun _ _ _ h => h) (Or.inl ⟨by rfl, ?_⟩) (by assumption) ?_; rotate_left; focus (intro wq hSw; (try dsimp only at hSw); go_simp; all_goals (with_reducible rfl))
    try simp only [Act.put, sA, s0, s1]
    refine tkA 3 (v := ?_) (by simp only [gA, g1, g0]; rfl) (by kernel_rfl) (by exact fun _ _ _ h => h) (Or.inl ⟨by rfl, ?_⟩) (by assumption) ?_; rotate_left; focus (intro wq hSw; (try dsimp only at hSw); go_simp; all_goals (with_reducible rfl))
    try simp only [Act.put, sA, s0, s1]
    refine tkA 4 (v := ?_) (by simp only [gA, g1, g0]; rfl) (by kernel_rfl) (by exact fun _ _ _ h => h) (Or.inl ⟨by rfl, ?_⟩) (by assumption) ?_; rotate_left; focus (intro wq hSw; (try dsimp only at hSw); go_simp; all_goals (with_reducible rfl))
    try simp only [Act.put, sA, s0, s1]
    refine tkA 5 (v := ?_) (by simp only [gA, g1, g0]; rfl) (by kernel_rfl) (by exact fun _ _ _ h => h) (Or.inl ⟨by rfl, ?_⟩) (by assumption) ?_; rotate_left; focus (intro wq hSw; (try dsimp only at hSw); go_simp; all_goals (with_reducible rfl))
    try simp only [Act.put, sA, s0, s1]
    refine wpAnyH_ready (rs := [6]) (by kernel_rfl) (by simp) ?_
    refine AllReadyH.cons (by simp only [gA, g1, g0]; rfl) (fun K hK => ?_) AllReadyH.nil
    refine step_appB rfl _ _ rfl g cap i m _ cur ((ks.drop j).flatMap listK) ⟨g, j * 37, none⟩ rfl rfl (by exact HB'.out) (by omega) (by exact HXL.out) (fun k u hk => by rw [add_plain]; exact HSR.out k u hk) (by exact HONE.out) ?_
    intro w2 hb2 haw2
    have HB2 := Lib.hid hb2
    have HA2 : Hid (Away [g] w w2) := ⟨haw2.os, haw2.tape, haw2.output, haw2.size, haw2.block⟩
    clear hb2 haw2
    refine hK.out _ _ trivial (fun hHeld => ?_)
    clear hK K
    try simp only [Act.put, sA, s0, s1]
    refine tkA 7 (v := ?_) (by simp only [gA, g1, g0]; rfl) (by kernel_rfl) (by exact fun _ _ _ h => h) (Or.inl ⟨by rfl, ?_⟩) (by assumption) ?_; rotate_left; focus (intro wq hSw; (try dsimp only at hSw); go_simp; all_goals (with_reducible rfl))
    try simp only [Act.put, sA, s0, s1]
    refine wpAnyH_done (by kernel_rfl) ?_ _
    go_wp2_with (refine wpList_clearB rfl _ rfl g cap (i + m) (n - (i + m)) (cap - (i + m)) (over cur i ((ks.drop j).flatMap listK)) (some ⟨g, (i + m) * 37, none⟩) rfl (by unfold fromA; rw [if_neg (by omega)]) (by exact HB2.out) (by omega) ?_; refine Hid.out ?_)
    refine Lib.hid ?_
    intro w3 hb3 haw3
    have HB3 := Lib.hid hb3
    replace HA2 := Lib.hid (HA2.out.trans haw3)
    clear hb3 haw3
    go_wp2_with fail
    go_ret
    exact ⟨rfl, HB3.out.lst (fun x hx => HA.out x (List.mem_of_mem_eraseIdx hx)) HCM.out (by rw [List.length_eraseIdx, if_pos (by rw [HM.out]; have h1 := HN.out; omega), HM.out]; have h1 := HN.out; omega) (by omega) HDC.out, HA2.out⟩
end Go.Proofs.YtkccpidgeecemaaGreatDoor.K
namespace Go.Proofs.YtkccpidgeecemaaGreatDoor.K
open Go.ChangeShapes Go.WideShapes Go.ChangeAt Go.RowKit
open S6 (wp_region_cls quiet_val quiet_call quiet_ld ld3 ld4 ld5 ld25 ld26 load28_run load24m_run)
set_option linter.unusedVariables false
set_option linter.unusedSimpArgs false
set_option maxRecDepth 100000
theorem run_buildK (w : World) (p : Pk) (ha : Ad p) : (Instr.buildSlice 31 1 #[(0, .agg (csK p))]).run Tryz.prog w = .ok (.slice (some ⟨w.heap.size, 0, none⟩) 1 1) (w.alloc (.cells (csK p) 55)) := by
  obtain ⟨v, tos, flow, sv, sb, dv', db, proto, ttl, id, df, more, frag, off, o, d⟩ := p
  obtain ⟨h1, h2⟩ := ha
  simp only at h1 h2
  obtain ⟨b0, b1, b2, b3, b4, b5, b6, b7, b8, b9, b10, b11, b12, b13, b14, b15, rfl⟩ := list16 h1
  obtain ⟨c0, c1, c2, c3, c4, c5, c6, c7, c8, c9, c10, c11, c12, c13, c14, c15, rfl⟩ := list16 h2
  kernel_rfl
theorem flatK_snoc (xs : List Pk) (x : Pk) : (xs ++ [x]).flatMap listK = xs.flatMap listK ++ listK x := by simp
theorem run_appK (ty : TypeId) (w : World) (v : Value) (xs : List Pk) (hown : LstK w v xs) (g c : Nat) (p : Pk) (hb : BoxK w g (csK p)) (ha : Ad p) (hk : xs.length < 100000) :
    ∃ v' w', (Builtin.append_ #[31, 31] ty #[v, .slice (some ⟨g, 0, none⟩) 1 c]).run Tryz.prog w = .ok v' w' ∧ LstK w' v' (xs ++ [p]) ∧ w.grownBy w' v.ownBlock ∧ Moved w v v' := by
  obtain ⟨i0, hi, hz0, hz1, hz2⟩ := info_parts infoK
  obtain ⟨v', w', r1, r2, r3, r4⟩ := run_appN 31 ty 55 i0 _ 72 37 Tryz.underlying31 hi hz0 hz1 hz2 zK_size (by decide) w v xs.length (xs.flatMap listK) hown ⟨g, 0, none⟩ 1 c (listK p) (by rw [listK_len ha]) (fun j u hj => by
    rw [add_plain, Nat.zero_add, cell_of_block hb]; simpa [csK] using hj) (fun u hu => flatK_one [p] u (by simpa using hu)) (by unfold maxLen; omega) (by omega)
  refine ⟨v', w', r1, ?_, r3, r4⟩
  unfold LstK
  rw [flatK_snoc, List.length_append]
  exact r2
theorem run_appL (ty : TypeId) (w : World) (v : Value) (g cap : Nat) (xs : List Pk) (hown : LstK w v []) (h : LstK w (.slice (some ⟨g, 0, none⟩) xs.length cap) xs) (hA : ∀ x ∈ xs, Ad x) (hk : xs.length < 100000) :
    ∃ v' w', (Builtin.append_ #[31, 31] ty #[v, .slice (some ⟨g, 0, none⟩) xs.length cap]).run Tryz.prog w = .ok v' w' ∧ LstK w' v' xs ∧ w.grownBy w' v.ownBlock ∧ Moved w v v' := by
  obtain ⟨i0, hi, hz0, hz1, hz2⟩ := info_parts infoK
  have hl := flatK_len xs hA
  obtain ⟨v', w', r1, r2, r3, r4⟩ := run_appN 31 ty 55 i0 _ 72 37 Tryz.underlying31 hi hz0 hz1 hz2 zK_size (by decide) w v 0 [] hown ⟨g, 0, none⟩ xs.length cap (xs.flatMap listK) hl (fun j u hj => by
    rw [add_plain, Nat.zero_add, World.ownsRow.cellAt h j (by have := (List.getElem?_eq_some_iff.1 hj).1; omega)]; exact hj) (flatK_one xs) (by unfold maxLen; omega) (by omega)
  refine ⟨v', w', r1, ?_, r3, r4⟩
  unfold LstK
  rw [Nat.zero_add, List.nil_append] at r2
  exact r2
end Go.Proofs.YtkccpidgeecemaaGreatDoor.K
