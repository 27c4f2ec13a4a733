/-
  For UdpKeeps: lists told, their copies, and the two lists that hold them, all apart.
-/
import Derived.Test.YtbfpphoiapggnaaMkB
import Derived.Test.YtbfpphoiapggnaaAdm
import Derived.Test.YtbfpphoiapggnaaUntil
import Derived.Deep.RegionHeld3
import Derived.Deep.DeepCutAuto
namespace Go.Proofs.Ytbfpphoiapggnaa
open Go.ChangeShapes Go.WideShapes Go.ChangeAt Go.RowKit Num
set_option linter.unusedVariables false
set_option linter.unusedSimpArgs false
set_option maxRecDepth 100000
namespace Mk
structure Sys (B : Nat) (w : World) (kv wv : Value) (vs us : List Value) (O : List (Value × List Int)) : Prop where
  kl : LstV w kv vs
  wl : LstV w wv us
  own : ∀ o ∈ O, Owns w o.1 o.2
  apart : O.Pairwise (fun s t => Sep s.1.ownBlock.toList t.1.ownBlock.toList)
  ok : ∀ o ∈ O, Sep o.1.ownBlock.toList kv.ownBlock.toList
  ow : ∀ o ∈ O, Sep o.1.ownBlock.toList wv.ownBlock.toList
  kw : Sep kv.ownBlock.toList wv.ownBlock.toList
  nk : New B kv
  nw : New B wv
  no : ∀ o ∈ O, New B o.1
  hB : B ≤ w.heap.size
theorem Sys.on {B : Nat} {w w' : World} {kv wv : Value} {vs us : List Value} {O : List (Value × List Int)} (h : Sys B w kv wv vs us O) (hw : Away [] w w') : Sys B w' kv wv vs us O :=
  ⟨h.kl.on hw, h.wl.on hw, fun o ho => (h.own o ho).on hw, h.apart, h.ok, h.ow, h.kw, h.nk, h.nw, h.no, Nat.le_trans h.hB hw.size⟩
theorem Sys.start (w : World) : Sys w.heap.size w (.slice none 0 0) (.slice none 0 0) [] [] [] :=
  ⟨LstV.nil _, LstV.nil _, by simp, .nil, by simp, by simp, by simp [Sep, Value.ownBlock], New.nil _, New.nil _, by simp, Nat.le_refl _⟩
theorem Sys.obj {B : Nat} {w w' : World} {kv wv v : Value} {vs us : List Value} {O : List (Value × List Int)} {l : List Int} (h : Sys B w kv wv vs us O) (hw : Away [] w w') (ho : Owns w' v l) (hn : New w.heap.size v) : Sys B w' kv wv vs us (O ++ [(v, l)]) := by
  have h' := h.on hw
  have far : ∀ (u : Value), (∀ k, u.ownBlock = some k → k < w.heap.size) → Sep u.ownBlock.toList v.ownBlock.toList := fun u hu x hx hc => by
    have h1 := hu x (by simpa using hx); have h2 := hn x (by simpa using hc); omega
  refine ⟨h'.kl, h'.wl, ?_, ?_, ?_, ?_, h.kw, h.nk, h.nw, ?_, h'.hB⟩
  · intro o hm
    rcases List.mem_append.1 hm with hm | hm
    · exact h'.own o hm
    · simp at hm; subst hm; exact ho
  · rw [List.pairwise_append]
    refine ⟨h.apart, by simp, fun a ha b hb => ?_⟩
    simp at hb; subst hb
    exact far a.1 (h.own a ha).lt
  · intro o hm
    rcases List.mem_append.1 hm with hm | hm
    · exact h.ok o hm
    · simp at hm; subst hm; exact (far kv h.kl.lt).symm
  · intro o hm
    rcases List.mem_append.1 hm with hm | hm
    · exact h.ow o hm
    · simp at hm; subst hm; exact (far wv h.wl.lt).symm
  · intro o hm
    rcases List.mem_append.1 hm with hm | hm
    · exact h.no o hm
    · simp at hm; subst hm; exact hn.mono h.hB
theorem Sys.appK {B : Nat} {w w' : World} {kv wv kv' : Value} {vs us n : List Value} {O : List (Value × List Int)} (h : Sys B w kv wv vs us O) (hl : LstV w' kv' (vs ++ n)) (ha : Away kv.ownBlock.toList w w') (hm : Moved w kv kv') : Sys B w' kv' wv (vs ++ n) us O := by
  have mv : ∀ (u : Value), Sep u.ownBlock.toList kv.ownBlock.toList → (∀ k, u.ownBlock = some k → k < w.heap.size) → Sep u.ownBlock.toList kv'.ownBlock.toList := fun u hs hu x hx hc => by
    rcases hm x (by simpa using hc) with h1 | h1
    · exact hs x hx (by simp [h1])
    · have := hu x (by simpa using hx); omega
  refine ⟨hl, h.wl.away ha (fun k hk hc => h.kw k hc (by simp [hk])), fun o ho => (h.own o ho).away ha (fun k hk hc => h.ok o ho k (by simp [hk]) hc), h.apart, fun o ho => mv o.1 (h.ok o ho) (h.own o ho).lt, h.ow, (mv wv h.kw.symm h.wl.lt).symm, h.nk.moved hm h.hB, h.nw, h.no, Nat.le_trans h.hB ha.size⟩
theorem Sys.appW {B : Nat} {w w' : World} {kv wv wv' : Value} {vs us n : List Value} {O : List (Value × List Int)} (h : Sys B w kv wv vs us O) (hl : LstV w' wv' (us ++ n)) (ha : Away wv.ownBlock.toList w w') (hm : Moved w wv wv') : Sys B w' kv wv' vs (us ++ n) O := by
  have mv : ∀ (u : Value), Sep u.ownBlock.toList wv.ownBlock.toList → (∀ k, u.ownBlock = some k → k < w.heap.size) → Sep u.ownBlock.toList wv'.ownBlock.toList := fun u hs hu x hx hc => by
    rcases hm x (by simpa using hc) with h1 | h1
    · exact hs x hx (by simp [h1])
    · have := hu x (by simpa using hx); omega
  refine ⟨h.kl.away ha (fun k hk hc => h.kw k (by simp [hk]) hc), hl, fun o ho => (h.own o ho).away ha (fun k hk hc => h.ow o ho k (by simp [hk]) hc), h.apart, h.ok, fun o ho => mv o.1 (h.ow o ho) (h.own o ho).lt, mv kv h.kw h.kl.lt, h.nk, h.nw.moved hm h.hB, h.no, Nat.le_trans h.hB ha.size⟩
theorem Sys.bag {B : Nat} {w : World} {kv wv : Value} {T : List Kept} {O : List (Value × List Int)} (h : Sys B w kv wv (T.map Kept.v) (T.map Kept.u) O) (hs : (T.map (fun t => (t.v, t.p))).Sublist O) (hu : ∀ t ∈ T, (t.u, t.p) ∈ O) (hb : ∀ t ∈ T, Bytes t.p ∧ t.p.length ≤ 140737488355000) : Bag w kv wv T := by
  have hv : ∀ t ∈ T, (t.v, t.p) ∈ O := fun t ht => hs.subset (List.mem_map.2 ⟨t, ht, rfl⟩)
  refine ⟨h.kl, h.wl, fun t ht => ⟨h.own _ (hv t ht), h.own _ (hu t ht), hb t ht⟩, ?_, fun t ht => h.ok _ (hv t ht)⟩
  have := h.apart.sublist hs
  rw [List.pairwise_map] at this
  exact this
theorem Sys.mem_new {B : Nat} {w : World} {kv wv : Value} {T : List Kept} {vs us : List Value} {O : List (Value × List Int)} (h : Sys B w kv wv vs us O) (hs : (T.map (fun t => (t.v, t.p))).Sublist O) : ∀ z ∈ T.flatMap (fun t => t.v.ownBlock.toList), B ≤ z := fun z hz => by
  obtain ⟨t, ht, hz⟩ := List.mem_flatMap.1 hz
  exact h.no _ (hs.subset (List.mem_map.2 ⟨t, ht, rfl⟩)) z (by simpa using hz)
/-- A list of bytes lies in no box of a datagram. -/
theorem sl_box {w : World} {v : Value} {l : List Int} {k n c : Nat} {g : Dg} {a : Option Addr} (h : Sl w v l) (hb : BoxD w k g (.slice a n c)) : l ≠ [] → ∀ z, v.ownBlock = some z → z ∉ [k] := by
  obtain ⟨a', cap, rfl, h1, h2, h3⟩ := h
  intro hl z hz hc
  simp at hc
  subst hc
  rcases h3.2.2 with h4 | ⟨b, off, rfl, hc⟩
  · exact hl h4
  · have hbz : b = z := by simpa [Value.ownBlock] using hz
    subst hbz
    have h5 := hc 0 (by cases l; exact absurd rfl hl; simp)
    rw [cell_of_block hb] at h5
    unfold csD at h5
    rcases off with _ | _ | _ | _ | off <;> simp at h5
/-- A copy of a list. -/
theorem run_clone (ty : TypeId) (w : World) (xv : Value) (l : List Int) (hsl : Sl w xv l) : ∃ v' w', (Builtin.append_ #[25, 25] ty #[.slice none 0 0, xv]).run Try.prog w = .ok v' w' ∧ Owns w' v' l ∧ New w.heap.size v' ∧ Away [] w w' := by
  obtain ⟨a, cap, rfl, h1, h2, h3⟩ := hsl
  cases a with
  | none =>
    have := h2 rfl
    subst this
    obtain rfl : l = [] := List.eq_nil_of_length_eq_zero (by omega)
    exact ⟨_, _, by kernel_rfl, Owns.nil _, New.nil _, Away.refl _ _⟩
  | some ad =>
    obtain ⟨v', w', hr, r1, r2, r3⟩ := run_appB ty w (.slice none 0 0) [] l (Owns.nil _) ad l.length cap rfl h3.src (by have := h3.1; simpa using this)
    refine ⟨v', w', hr, by simpa using r1, fun k hk => ?_, (Away.refl _ _).grown r2 (by simp [Value.ownBlock])⟩
    rcases r3 k hk with h | h
    · simp [Value.ownBlock] at h
    · exact h
theorem wpList_clone {w : World} {ops : Array Oper} {rest : List Oper} {o : Oper} {a : Act} {Q : Exit → Act → World → Prop} (hgd : o.guard = none) (s x : Operand)
    (ho : o.op = .call { callee := .builtin .append, args := #[s, x], argTypes := #[25, 25] }) (xv : Value) (l : List Int) (hs : a.eval s = .slice none 0 0) (hx : a.eval x = xv) (hsl : Sl w xv l)
    (h : ∀ v' w', Owns w' v' l → New w.heap.size v' → Away [] w w' → wpList Try.prog ops Q rest (a.put o.dst v') w') : wpList Try.prog ops Q (o :: rest) a w := by
  obtain ⟨v', w', hrun, r1, r2, r3⟩ := run_clone o.type w xv l hsl
  refine wpList_plain hgd fun _ hK => ?_
  unfold Oper.wp
  simp [execOp, ho, resolve, invoke, builtin, hs, hx, hrun, Result.andThen]
  exact hK _ _ (h v' w' r1 r2 r3)
theorem step_clone {ops : Array Oper} {o : Oper} {a : Act} {w : World} {K : Act → World → Prop} {Q : Exit → Act → World → Prop} {E : Prop} (hg : o.guard = none) (s x : Operand)
    (hop : o.op = .call { callee := .builtin .append, args := #[s, x], argTypes := #[25, 25] }) (xv : Value) (l : List Int) (hs : a.eval s = .slice none 0 0) (hx : a.eval x = xv) (hsl : Sl w xv l)
    (hK : ∀ v' w', Owns w' v' l → New w.heap.size v' → Away [] w w' → K (a.put o.dst v') w') :
    if Region.wanted o (yielded ops a.tmps) = true then Oper.wp Try.prog o a w K Q else E := by
  have hw : Region.wanted o (yielded ops a.tmps) = true := by simp [Region.wanted, hg]
  rw [if_pos hw]
  obtain ⟨v', w', hrun, r1, r2, r3⟩ := run_clone o.type w xv l hsl
  unfold Oper.wp
  simp [execOp, hop, resolve, invoke, builtin, hs, hx, hrun, Result.andThen]
  exact hK v' w' r1 r2 r3
theorem step_allocD {ops : Array Oper} {o : Oper} {a : Act} {w : World} {K : Act → World → Prop} {Q : Exit → Act → World → Prop} {E : Prop} (hg : o.guard = none) (ho : o.op = .alloc 27)
    (hK : ∀ k w1, w.heap.size ≤ k → BoxD w1 k zeroDg (.slice none 0 0) → Away [] w w1 → K (a.put o.dst (.pointer (some ⟨k, 0, none⟩))) w1) :
    if Region.wanted o (yielded ops a.tmps) = true then Oper.wp Try.prog o a w K Q else E := by
  have hw : Region.wanted o (yielded ops a.tmps) = true := by simp [Region.wanted, hg]
  rw [if_pos hw]
  have hz : (zeroValue 27).run Try.prog w = .ok (.agg (csD zeroDg (.slice none 0 0))) w := by
    have := zero27
    cases hi : Try.prog.info? 27 with
    | none => rw [hi] at this; simp at this
    | some i => rw [hi] at this; simp at this; simp [zeroValue, typeInfo, hi, this]
  unfold Oper.wp execOp
  simp only [ho, Sem.run_bind, Instr.alloc, hz, newVar, newRow, run_newObj_alloc, Sem.run_pure, Result.andThen_ok]
  exact hK w.heap.size _ (Nat.le_refl _) (block_new _ _) ((Away.refl [] w).alloc _)
theorem step_storeD {ops : Array Oper} {o : Oper} {a : Act} {w : World} {K : Act → World → Prop} {Q : Exit → Act → World → Prop} {E : Prop} (hg : o.guard = none) (x y : Operand) (ho : o.op = .store 27 x y)
    (k : Nat) (hx : a.eval x = .pointer (some ⟨k, 0, none⟩)) (g : Dg) (dv : Value) (hy : a.eval y = .agg (csD g dv)) (q : Dg) (du : Value) (hb : BoxD w k q du) (h2 : dv.oneCell' = true)
    (hK : ∀ w1, BoxD w1 k g dv → Away [k] w w1 → K (a.put o.dst undef) w1) :
    if Region.wanted o (yielded ops a.tmps) = true then Oper.wp Try.prog o a w K Q else E := by
  have hw : Region.wanted o (yielded ops a.tmps) = true := by simp [Region.wanted, hg]
  rw [if_pos hw]
  exact wp_store_row 27 x y ho k (csD g dv) hx hy 27 (csD q du) hb info27 rfl (csD_one g dv h2) (hK _ (by
    unfold BoxD at hb ⊢; simp [World.setRow, Array.getElem?_modify, hb]) ((Away.refl [k] w).setRow (.inl (by simp)) _))
theorem step_appV {ops : Array Oper} {o : Oper} {a : Act} {w : World} {K : Act → World → Prop} {Q : Exit → Act → World → Prop} {E : Prop} (hg : o.guard = none) (s t : Operand)
    (ho : o.op = .call { callee := .builtin .append, args := #[s, t], argTypes := #[47, 47] }) (v : Value) (xs us : List Value) (hs : a.eval s = v) (hown : LstV w v xs)
    (ad : Addr) (n c : Nat) (ht : a.eval t = .slice (some ad) n c) (hn : us.length = n) (hu : ∀ j u, us[j]? = some u → w.cell? (ad.add j) = some u) (h1 : ∀ u ∈ us, u.oneCell' = true) (hk : xs.length + n ≤ 1000000000)
    (hK : ∀ v' w', LstV w' v' (xs ++ us) → Away v.ownBlock.toList w w' → Moved w v v' → K (a.put o.dst v') w') :
    if Region.wanted o (yielded ops a.tmps) = true then Oper.wp Try.prog o a w K Q else E := by
  have hw : Region.wanted o (yielded ops a.tmps) = true := by simp [Region.wanted, hg]
  rw [if_pos hw]
  subst hn
  obtain ⟨i0, hi, hz0, hz1, hz2⟩ := info_parts info25v
  obtain ⟨v', w', hrun, r1, r2, r3⟩ := run_appN 47 o.type 25 i0 _ 24 1 Try.underlying47 hi hz0 hz1 hz2 rfl (by decide) w v xs.length xs hown ad us.length c us (by simp) hu h1 (by unfold maxLen; omega) (by omega)
  unfold Oper.wp
  simp [execOp, ho, resolve, invoke, builtin, hs, ht, hrun, Result.andThen]
  refine hK v' w' ?_ ((Away.refl _ _).grown r2 (fun k hk => .inl (by simp [hk]))) r3
  unfold LstV
  rw [List.length_append]
  exact r1
theorem four_cells (w : World) (a b c d : Value) (n : Nat) (hn : n = w.heap.size) : ∀ j u, [a, b, c, d][j]? = some u → (w.alloc (.cells #[a, b, c, d] 25)).cell? ((⟨n, 0, none⟩ : Addr).add j) = some u := by
  subst hn
  intro j u hj
  rw [add_plain, Nat.zero_add, cell_of_block (block_new w _)]
  simpa using hj
theorem sub8 {α : Type} {A O : List α} {a b c d p1 p2 p3 p4 : α} (h : A.Sublist O) : (A ++ [a, b, c, d]).Sublist ((((((((O ++ [a]) ++ [b]) ++ [c]) ++ [d]) ++ [p1]) ++ [p2]) ++ [p3]) ++ [p4]) := by
  have e : (((((((O ++ [a]) ++ [b]) ++ [c]) ++ [d]) ++ [p1]) ++ [p2]) ++ [p3]) ++ [p4] = (O ++ [a, b, c, d]) ++ [p1, p2, p3, p4] := by simp
  rw [e]
  exact (h.append (List.Sublist.refl _)).trans (List.sublist_append_left _ _)
theorem ld25 {w : World} {ad : Addr} {a : Option Addr} {n c : Nat} (h : w.cell? ad = some (.slice a n c)) : (Instr.loadAt 25 (.pointer (some ad))).run Try.prog w = .ok (.slice a n c) w := ld25v h
end Mk
end Go.Proofs.Ytbfpphoiapggnaa
