/-
  For SpanMemory: lists of lists, apart from one another.
-/
import Derived.Test.YtckiiidigajhpaaAsk1
import Derived.Test.YtckiiidigajhpaaFn5
namespace Go.Proofs.Ytckiiidigajhpaa
open Go.ChangeShapes Go.WideShapes Go.ChangeAt Go.RowKit
set_option linter.unusedVariables false
set_option linter.unusedSimpArgs false
set_option maxRecDepth 100000

/-- A list of slices of the program's own. -/
def LstV (w : World) (v : Value) (xs : List Value) : Prop := w.ownsRow 0 22 1 v xs.length xs
theorem LstV.away {S : List Nat} {w w' : World} {v : Value} {xs : List Value} (h : LstV w v xs) (hw : Away S w w') (ha : ∀ k, v.ownBlock = some k → k ∉ S) : LstV w' v xs := by
  obtain ⟨h1, h2⟩ := h
  refine ⟨h1, ?_⟩
  rcases h2 with h2 | ⟨g, cap, cur, rfl, hg, hh, r⟩
  · exact .inl h2
  · exact .inr ⟨g, cap, cur, rfl, hg, hw.keep (ha g rfl) hh, r⟩
theorem LstV.on {w w' : World} {v : Value} {xs : List Value} (h : LstV w v xs) (hw : Away [] w w') : LstV w' v xs := h.away hw (by simp)
theorem LstV.nil (w : World) : LstV w (.slice none 0 0) [] := World.ownsRow_nil _ _ _ _
theorem LstV.lt {w : World} {v : Value} {xs : List Value} (h : LstV w v xs) : ∀ k, v.ownBlock = some k → k < w.heap.size := fun k hk => (World.ownsRow.lt h k hk).2
theorem LstV.shape {w : World} {v : Value} {xs : List Value} (h : LstV w v xs) : ∃ a cap, v = .slice a xs.length cap ∧ (a = none → cap = 0) ∧ (∀ p, a = some p → p.off = 0 ∧ p.spot = none ∧ v.ownBlock = some p.block) ∧
    ∀ i u, xs[i]? = some u → ∃ g, a = some ⟨g, 0, none⟩ ∧ w.cell? ⟨g, i, none⟩ = some u := by
  have h0 := h
  rcases h.2 with ⟨rfl, h2⟩ | ⟨g, cap, cur, rfl, hg, hh, hn, hc, hs, ht⟩
  · obtain rfl : xs = [] := by simpa using h2
    exact ⟨none, 0, rfl, fun _ => rfl, by simp, by simp⟩
  · refine ⟨some ⟨g, 0, none⟩, cap, rfl, by simp, by simp [Value.ownBlock], fun i u hu => ⟨g, rfl, ?_⟩⟩
    have hi : i < xs.length := by
      rcases Nat.lt_or_ge i xs.length with h' | h'
      · exact h'
      · rw [List.getElem?_eq_none h'] at hu; simp at hu
    rw [World.ownsRow.cellAt h0 i (by omega)]
    exact hu
theorem info22 : (Try.prog.info? 22).map (fun i => (i.zero, i.size, i.bytes)) = some (some (.slice none 0 0), 1, 24) := by kernel_rfl
/-- Slices appended, as a step of a walk. -/
theorem wpList_appV {w : World} {ops : Array Oper} {rest : List Oper} {o : Oper} {a : Act} {Q : Exit → Act → World → Prop} (hgd : o.guard = none) (s t : Operand)
    (ho : o.op = .call { callee := .builtin .append, args := #[s, t], argTypes := #[33, 33] }) (v : Value) (xs us : List Value) (hs : a.eval s = v) (hown : LstV w v xs)
    (ad : Addr) (n c : Nat) (ht : a.eval t = .slice (some ad) n c) (hn : us.length = n) (hu : ∀ j u, us[j]? = some u → w.cell? (ad.add j) = some u) (h1 : ∀ u ∈ us, u.oneCell' = true) (hk : xs.length + n ≤ 1000000000)
    (h : ∀ v' w', LstV w' v' (xs ++ us) → Away v.ownBlock.toList w w' → Moved w v v' → wpList Try.prog ops Q rest (a.put o.dst v') w') : wpList Try.prog ops Q (o :: rest) a w := by
  subst hn
  obtain ⟨i0, hi, hz0, hz1, hz2⟩ := info_parts info22
  obtain ⟨v', w', hrun, r1, r2, r3⟩ := run_appN 33 o.type 22 i0 _ 24 1 Try.underlying33 hi hz0 hz1 hz2 rfl (by decide) w v xs.length xs hown ad us.length c us (by simp) hu h1 (by unfold maxLen; omega) (by omega)
  refine wpList_plain hgd fun _ hK => ?_
  unfold Oper.wp
  simp [execOp, ho, resolve, invoke, builtin, hs, ht, hrun, Result.andThen]
  refine hK _ _ (h v' w' ?_ ((Away.refl _ _).grown r2 (fun k hk => .inl (by simp [hk]))) r3)
  unfold LstV
  rw [List.length_append]
  exact r1
theorem flat_put : ∀ (l : List Sp) (k : Nat) (x : Sp), k < l.length → ((l.flatMap encS).set (k * 2) (.int .i64 x.1)).set (k * 2 + 1) (.int .i64 x.2) = (l.set k x).flatMap encS
  | y :: r, 0, x, h => by simp [encS]
  | y :: r, k + 1, x, h => by
    have := flat_put r k x (by simpa using h)
    rw [show (k + 1) * 2 = k * 2 + 1 + 1 from by omega, show k * 2 + 1 + 1 + 1 = (k * 2 + 1) + 1 + 1 from by omega]
    simp only [List.flatMap_cons, encS, List.cons_append, List.nil_append, List.set_cons_succ]
    rw [this]
/-- A span written over. -/
theorem Lst.put {w : World} {g n cap k : Nat} {l : List Sp} (h : Lst w (.slice (some ⟨g, 0, none⟩) n cap) l) (hn : n = l.length) (hk : k < n) (x : Sp) :
    Lst ((w.setCell ⟨g, k * 2, none⟩ (.int .i64 x.1)).setCell ⟨g, k * 2 + 1, none⟩ (.int .i64 x.2)) (.slice (some ⟨g, 0, none⟩) n cap) (l.set k x) := by
  subst hn
  unfold Lst at h ⊢
  rw [List.length_set, ← flat_put l k x hk]
  exact (World.ownsRow.stored (World.ownsRow.stored h (k * 2) (.int .i64 x.1)).1 (k * 2 + 1) (.int .i64 x.2)).1
theorem away_put2 {w : World} {g k : Nat} (x : Sp) : Away [g] w ((w.setCell ⟨g, k * 2, none⟩ (.int .i64 x.1)).setCell ⟨g, k * 2 + 1, none⟩ (.int .i64 x.2)) := ((Away.refl [g] w).setCell (.inl (by simp)) _).setCell (.inl (by simp)) _
theorem LstV.set {w : World} {g n cap : Nat} {xs : List Value} (h : LstV w (.slice (some ⟨g, 0, none⟩) n cap) xs) (hn : n = xs.length) (i : Nat) (u : Value) : LstV (w.setCell ⟨g, i, none⟩ u) (.slice (some ⟨g, 0, none⟩) n cap) (xs.set i u) := by
  subst hn
  unfold LstV at h ⊢
  rw [List.length_set]
  exact (World.ownsRow.stored h i u).1
theorem LstV.free {g n cap : Nat} {w : World} {xs : List Value} (h : LstV w (.slice (some ⟨g, 0, none⟩) n cap) xs) (hn : n = xs.length) (i : Nat) : w.frozen? ⟨g, i, none⟩ = false := by
  subst hn; exact World.ownsRow.frozenAt h i

abbrev Hl := Value × List Sp
/-- Two slices in other blocks. -/
def Sep (u v : Value) : Prop := ∀ k, u.ownBlock = some k → v.ownBlock ≠ some k
theorem Sep.symm {u v : Value} (h : Sep u v) : Sep v u := fun k hk hu => h k hu hk
/-- A list of lists kv, and a list of numbers nv, all apart, all of the call's own since B. -/
structure Ap (B : Nat) (W0 w : World) (kv nv : Value) (T : List Hl) (L : List Int) : Prop where
  base : Below B W0 w
  hB : B ≤ w.heap.size
  kl : LstV w kv (T.map (·.1))
  nl : NumL w nv L
  own : ∀ t ∈ T, Lst w t.1 t.2
  sep : ∀ (i j : Nat) (s t : Hl), i ≠ j → T[i]? = some s → T[j]? = some t → Sep s.1 t.1
  sk : ∀ t ∈ T, Sep t.1 kv
  sn : ∀ t ∈ T, Sep t.1 nv
  kn : Sep kv nv
  new : ∀ t ∈ T, New B t.1
  newk : New B kv
  newn : New B nv
theorem Ap.size {B : Nat} {W0 w : World} {kv nv : Value} {T : List Hl} {L : List Int} (h : Ap B W0 w kv nv T L) (w' : World) (hs : w.heap.size ≤ w'.heap.size) : B ≤ w'.heap.size := Nat.le_trans h.hB hs
theorem Ap.on {B : Nat} {W0 w w' : World} {kv nv : Value} {T : List Hl} {L : List Int} (h : Ap B W0 w kv nv T L) (hw : Away [] w w') : Ap B W0 w' kv nv T L :=
  ⟨hw.below h.base (by simp) h.hB, Nat.le_trans h.hB hw.size, h.kl.on hw, h.nl.on hw, fun t ht => (h.own t ht).on hw, h.sep, h.sk, h.sn, h.kn, h.new, h.newk, h.newn⟩
theorem mem_set {T : List Hl} {i : Nat} {a t : Hl} (h : t ∈ T.set i a) : t = a ∨ ∃ j, j ≠ i ∧ T[j]? = some t := by
  obtain ⟨j, hj, rfl⟩ := List.getElem_of_mem h
  by_cases e : i = j
  · subst e; left; simp
  · right
    rw [List.length_set] at hj
    exact ⟨j, fun x => e x.symm, by simp [List.getElem_set, e, hj]⟩
theorem get_set {T : List Hl} {i j : Nat} {a s : Hl} (h : (T.set i a)[j]? = some s) : (j = i ∧ s = a ∧ i < T.length) ∨ (j ≠ i ∧ T[j]? = some s) := by
  rw [List.getElem?_set] at h
  split at h
  · rename_i e
    split at h
    · simp at h; exact .inl ⟨e.symm, h.symm, by assumption⟩
    · simp at h
  · rename_i e; exact .inr ⟨fun x => e x.symm, h⟩
/-- List i becomes another one; what was changed lies in its own block. -/
theorem Ap.turn {B : Nat} {W0 w w' : World} {kv nv v v' : Value} {T : List Hl} {L : List Int} {i : Nat} {l l' : List Sp} (h : Ap B W0 w kv nv T L) (ht : T[i]? = some (v, l)) (hw : Away v.ownBlock.toList w w') (hm : Moved w v v') (hl : Lst w' v' l') (hk : LstV w' kv ((T.map (·.1)).set i v')) :
    Ap B W0 w' kv nv (T.set i (v', l')) L := by
  have hmem := List.mem_of_getElem? ht
  have hnew := h.new _ hmem
  have off : ∀ {u : Value}, Sep v u → ∀ k, u.ownBlock = some k → k ∉ v.ownBlock.toList := fun hs k hk hin => hs k (by simpa using hin) hk
  have far : ∀ {u : Value}, Sep v u → (∀ k, u.ownBlock = some k → k < w.heap.size) → Sep v' u := fun hs hlt k hk hu => by
    rcases hm k hk with h1 | h1
    · exact hs k h1 hu
    · have := hlt k hu; omega
  have oth : ∀ j t, j ≠ i → T[j]? = some t → Sep v t.1 := fun j t hj hjt => h.sep i j _ _ (fun e => hj e.symm) ht hjt
  refine ⟨hw.below h.base (fun k hk => hnew k (by simpa using hk)) h.hB, Nat.le_trans h.hB hw.size, ?_, h.nl.away hw (off (h.sn _ hmem)), ?_, ?_, ?_, ?_, h.kn, ?_, h.newk, h.newn⟩
  · rw [List.map_set]; exact hk
  · intro t hmt
    rcases mem_set hmt with rfl | ⟨j, hj, hjt⟩
    · exact hl
    · exact (h.own t (List.mem_of_getElem? hjt)).away hw (off (oth j t hj hjt))
  · intro a b s t hab hs ht'
    rcases get_set hs with ⟨rfl, rfl, _⟩ | ⟨ha, hs'⟩
    · rcases get_set ht' with ⟨rfl, _, _⟩ | ⟨hb, ht2⟩
      · exact absurd rfl hab
      · exact far (oth b t hb ht2) (h.own t (List.mem_of_getElem? ht2)).lt
    · rcases get_set ht' with ⟨rfl, rfl, _⟩ | ⟨hb, ht2⟩
      · exact (far (oth a s ha hs') (h.own s (List.mem_of_getElem? hs')).lt).symm
      · exact h.sep a b s t hab hs' ht2
  · intro t hmt
    rcases mem_set hmt with rfl | ⟨j, hj, hjt⟩
    · exact far (h.sk _ hmem) h.kl.lt
    · exact h.sk t (List.mem_of_getElem? hjt)
  · intro t hmt
    rcases mem_set hmt with rfl | ⟨j, hj, hjt⟩
    · exact far (h.sn _ hmem) h.nl.lt
    · exact h.sn t (List.mem_of_getElem? hjt)
  · intro t hmt
    rcases mem_set hmt with rfl | ⟨j, hj, hjt⟩
    · exact hnew.moved hm h.hB
    · exact h.new t (List.mem_of_getElem? hjt)
theorem map_at {T : List Hl} {i : Nat} {t : Hl} (h : T[i]? = some t) : (T.map (·.1))[i]? = some t.1 := by rw [List.getElem?_map, h]; rfl
theorem set_same {xs : List Value} {i : Nat} {u : Value} (h : xs[i]? = some u) : xs.set i u = xs := by
  obtain ⟨hi, rfl⟩ := List.getElem?_eq_some_iff.1 h
  exact List.set_getElem_self hi
/-- A span written over. -/
theorem Ap.put {B : Nat} {W0 w : World} {kv nv : Value} {T : List Hl} {L : List Int} {i g n cap k : Nat} {l : List Sp} (h : Ap B W0 w kv nv T L) (ht : T[i]? = some (.slice (some ⟨g, 0, none⟩) n cap, l)) (hn : n = l.length) (hk : k < n) (x : Sp) :
    Ap B W0 ((w.setCell ⟨g, k * 2, none⟩ (.int .i64 x.1)).setCell ⟨g, k * 2 + 1, none⟩ (.int .i64 x.2)) kv nv (T.set i (.slice (some ⟨g, 0, none⟩) n cap, l.set k x)) L := by
  have hmem := List.mem_of_getElem? ht
  refine h.turn ht (away_put2 x) (Moved.refl _ _) ((h.own _ hmem).put hn hk x) ?_
  rw [set_same (map_at ht)]
  exact h.kl.away (away_put2 x) (fun k' hk' => by
    have := h.sk _ hmem g rfl
    simp
    rintro rfl
    exact this hk')
/-- One more span, the list's new head stored. -/
theorem Ap.app {B : Nat} {W0 w w' : World} {kv nv v v' : Value} {T : List Hl} {L : List Int} {i kg kn' kc : Nat} {l : List Sp} {x : Sp} (h : Ap B W0 w kv nv T L) (hkv : kv = .slice (some ⟨kg, 0, none⟩) kn' kc) (hkn : kn' = T.length) (ht : T[i]? = some (v, l)) (hl : Lst w' v' (l ++ [x])) (hg : w.grownBy w' v.ownBlock) (hm : Moved w v v') :
    Ap B W0 (w'.setCell ⟨kg, i, none⟩ v') kv nv (T.set i (v', l ++ [x])) L := by
  have hmem := List.mem_of_getElem? ht
  have hw : Away v.ownBlock.toList w w' := (Away.refl _ _).grown hg (fun k hk => .inl (by simp [hk]))
  have hkl : LstV w' kv (T.map (·.1)) := h.kl.away hw (fun k hk hin => h.sk _ hmem k (by simpa using hin) hk)
  have hs2 : Away [kg] w' (w'.setCell ⟨kg, i, none⟩ v') := (Away.refl [kg] w').setCell (.inl (by simp)) _
  have hkb : kv.ownBlock = some kg := by rw [hkv]; rfl
  have hsz := hw.size
  have hvk : ∀ k, v'.ownBlock = some k → k ≠ kg := fun k hk e => by
    subst e
    rcases hm k hk with h1 | h1
    · exact h.sk _ hmem k h1 hkb
    · have := h.kl.lt k hkb; omega
  have hbl := h.newk kg hkb
  have off : ∀ {u : Value}, Sep u kv → ∀ k, u.ownBlock = some k → k ∉ [kg] := fun hs k hk hin => by
    simp at hin; subst hin; exact hs k hk hkb
  have hk2 : LstV (w'.setCell ⟨kg, i, none⟩ v') kv ((T.map (·.1)).set i v') := by
    have := hkl
    rw [hkv] at this ⊢
    exact this.set (by rw [hkn]; simp) i v'
  have hfar : ∀ {u : Value}, Sep v u → (∀ k, u.ownBlock = some k → k < w.heap.size) → Sep v' u := fun hs hlt k hk hu => by
    rcases hm k hk with h1 | h1
    · exact hs k h1 hu
    · have := hlt k hu; omega
  have hAB : Away (kg :: v.ownBlock.toList) w (w'.setCell ⟨kg, i, none⟩ v') := (hw.mono (T := kg :: v.ownBlock.toList) (fun x hx => by simp [hx])).next hs2 (fun x hx => .inl (by simp at hx; simp [hx]))
  have oth : ∀ j t, j ≠ i → T[j]? = some t → Sep v t.1 := fun j t hj hjt => h.sep i j _ _ (fun e => hj e.symm) ht hjt
  have off2 : ∀ {u : Value}, Sep v u → Sep kv u → ∀ k, u.ownBlock = some k → k ∉ kg :: v.ownBlock.toList := fun hs hq k hk hin => by
    rcases List.mem_cons.1 hin with rfl | hin
    · exact hq k hkb hk
    · exact hs k (by simpa using hin) hk
  have hl2 : Lst (w'.setCell ⟨kg, i, none⟩ v') v' (l ++ [x]) := hl.away hs2 (fun k hk hin => hvk k hk (by simpa using hin))
  have hnew := h.new _ hmem
  refine ⟨hAB.below h.base (fun k hk => by rcases List.mem_cons.1 hk with rfl | hk; exact hbl; exact hnew k (by simpa using hk)) h.hB, Nat.le_trans h.hB hAB.size, by rw [List.map_set]; exact hk2, h.nl.away hAB (off2 (h.sn _ hmem) h.kn), ?_, ?_, ?_, ?_, h.kn, ?_, h.newk, h.newn⟩
  · intro t hmt
    rcases mem_set hmt with rfl | ⟨j, hj, hjt⟩
    · exact hl2
    · exact (h.own t (List.mem_of_getElem? hjt)).away hAB (off2 (oth j t hj hjt) (h.sk t (List.mem_of_getElem? hjt)).symm)
  · intro a b s t hab hs ht'
    rcases get_set hs with ⟨rfl, rfl, _⟩ | ⟨ha, hs'⟩
    · rcases get_set ht' with ⟨rfl, _, _⟩ | ⟨hb, ht2⟩
      · exact absurd rfl hab
      · exact hfar (oth b t hb ht2) (h.own t (List.mem_of_getElem? ht2)).lt
    · rcases get_set ht' with ⟨rfl, rfl, _⟩ | ⟨hb, ht2⟩
      · exact (hfar (oth a s ha hs') (h.own s (List.mem_of_getElem? hs')).lt).symm
      · exact h.sep a b s t hab hs' ht2
  · intro t hmt
    rcases mem_set hmt with rfl | ⟨j, hj, hjt⟩
    · exact hfar (h.sk _ hmem) h.kl.lt
    · exact h.sk t (List.mem_of_getElem? hjt)
  · intro t hmt
    rcases mem_set hmt with rfl | ⟨j, hj, hjt⟩
    · exact hfar (h.sn _ hmem) h.nl.lt
    · exact h.sn t (List.mem_of_getElem? hjt)
  · intro t hmt
    rcases mem_set hmt with rfl | ⟨j, hj, hjt⟩
    · exact hnew.moved hm h.hB
    · exact h.new t (List.mem_of_getElem? hjt)
/-- One more number. -/
theorem Ap.num {B : Nat} {W0 w w' : World} {kv nv nv' : Value} {T : List Hl} {L L' : List Int} (h : Ap B W0 w kv nv T L) (hl : NumL w' nv' L') (hg : w.grownBy w' nv.ownBlock) (hm : Moved w nv nv') : Ap B W0 w' kv nv' T L' := by
  have hw : Away nv.ownBlock.toList w w' := (Away.refl _ _).grown hg (fun k hk => .inl (by simp [hk]))
  have off : ∀ {u : Value}, Sep u nv → ∀ k, u.ownBlock = some k → k ∉ nv.ownBlock.toList := fun hs k hk hin => hs k hk (by simpa using hin)
  have far : ∀ {u : Value}, Sep u nv → (∀ k, u.ownBlock = some k → k < w.heap.size) → Sep u nv' := fun hs hlt k hk hu => by
    rcases hm k hu with h1 | h1
    · exact hs k hk h1
    · have := hlt k hk; omega
  exact ⟨hw.below h.base (fun k hk => h.newn k (by simpa using hk)) h.hB, Nat.le_trans h.hB hw.size, h.kl.away hw (off h.kn), hl, fun t ht => (h.own t ht).away hw (off (h.sn t ht)), h.sep, h.sk, fun t ht => far (h.sn t ht) (h.own t ht).lt, far h.kn h.kl.lt, h.new, h.newk, h.newn.moved hm h.hB⟩
#print axioms Ap.app
end Go.Proofs.Ytckiiidigajhpaa
