/-
  For RouteKeeps: lists told and their copies, the two lists that hold them, all apart; numbers; two routes laid at once.
-/
import Derived.Test.YtoifolmcdkfniaaDoorMark
namespace Go.Proofs.YtoifolmcdkfniaaDoor
open Go.ChangeShapes Go.WideShapes Go.ChangeAt Go.RowKit
set_option linter.unusedVariables false
set_option linter.unusedSimpArgs false
set_option maxRecDepth 100000

/-- Lists told (V), their copies (U), and the lists that hold them, all in memory made since B. -/
structure Kw (B : Nat) (w : World) (kv wv : Value) (V U : List Held) : Prop where
  kl : LstV w kv (V.map Held.v)
  wl : LstV w wv (U.map Held.v)
  own : ∀ t ∈ V ++ U, LR w t.v t.l
  apart : V.Pairwise (fun s t => Sep s.v.ownBlock.toList t.v.ownBlock.toList)
  cross : ∀ t ∈ V, ∀ s ∈ U, Sep t.v.ownBlock.toList s.v.ownBlock.toList
  outk : ∀ t ∈ V ++ U, Sep t.v.ownBlock.toList kv.ownBlock.toList
  outw : ∀ t ∈ V ++ U, Sep t.v.ownBlock.toList wv.ownBlock.toList
  kw : Sep kv.ownBlock.toList wv.ownBlock.toList
  new : (∀ t ∈ V ++ U, New B t.v) ∧ New B kv ∧ New B wv
theorem Kw.start (B : Nat) (w : World) : Kw B w (.slice none 0 0) (.slice none 0 0) [] [] := ⟨LstV.nil _, LstV.nil _, by simp, by simp, by simp, by simp, by simp, by simp [Sep, Value.ownBlock], by simp, New.nil _, New.nil _⟩
theorem Kw.on {B : Nat} {w w' : World} {kv wv : Value} {V U : List Held} (h : Kw B w kv wv V U) (hw : Away [] w w') : Kw B w' kv wv V U := ⟨h.kl.on hw, h.wl.on hw, fun t ht => (h.own t ht).on hw, h.apart, h.cross, h.outk, h.outw, h.kw, h.new⟩
/-- A list that lies in none of their blocks. -/
def Free (kv wv : Value) (V U : List Held) (a : Value) : Prop := (∀ t ∈ V ++ U, Sep t.v.ownBlock.toList a.ownBlock.toList) ∧ Sep a.ownBlock.toList kv.ownBlock.toList ∧ Sep a.ownBlock.toList wv.ownBlock.toList
theorem Kw.free {B : Nat} {w : World} {kv wv : Value} {V U : List Held} (h : Kw B w kv wv V U) {a : Value} (ha : New w.heap.size a) : Free kv wv V U a := by
  refine ⟨fun t ht z hz hc => ?_, fun z hz hc => ?_, fun z hz hc => ?_⟩
  · have h1 := (h.own t ht).lt z (by simpa using hz)
    have h2 := ha z (by simpa using hc)
    omega
  · have h1 := h.kl.lt z (by simpa using hc)
    have h2 := ha z (by simpa using hz)
    omega
  · have h1 := h.wl.lt z (by simpa using hc)
    have h2 := ha z (by simpa using hz)
    omega
theorem sep_away {S : List Nat} {v : Value} (h : Sep v.ownBlock.toList S) : ∀ k, v.ownBlock = some k → k ∉ S := fun k hk => h k (by simp [hk])
theorem sep_moved {w : World} {v v' u : Value} (h : Sep u.ownBlock.toList v.ownBlock.toList) (hm : Moved w v v') (hu : ∀ k, u.ownBlock = some k → k < w.heap.size) : Sep u.ownBlock.toList v'.ownBlock.toList := fun z hz hc => by
  rcases hm z (by simpa using hc) with h1 | h1
  · exact h z hz (by simp [h1])
  · have := hu z (by simpa using hz); omega
/-- Two more told. -/
theorem Kw.putV {B : Nat} {w w' : World} {kv wv kv' : Value} {V U : List Held} {a b : Held} (h : Kw B w kv wv V U) (hB : B ≤ w.heap.size) (ha : LR w a.v a.l) (hb : LR w b.v b.l) (fa : Free kv wv V U a.v) (fb : Free kv wv V U b.v) (hab : Sep a.v.ownBlock.toList b.v.ownBlock.toList) (na : New B a.v) (nb : New B b.v)
    (hl : LstV w' kv' (V.map Held.v ++ [a.v, b.v])) (aw : Away kv.ownBlock.toList w w') (hm : Moved w kv kv') : Kw B w' kv' wv (V ++ [a, b]) U := by
  have hown : ∀ t ∈ V ++ [a, b] ++ U, LR w t.v t.l ∧ Sep t.v.ownBlock.toList kv.ownBlock.toList ∧ Sep t.v.ownBlock.toList wv.ownBlock.toList ∧ New B t.v := fun t ht => by
    simp only [List.mem_append, List.mem_cons, List.not_mem_nil, or_false] at ht
    rcases ht with (ht | rfl | rfl) | ht
    · have hm' : t ∈ V ++ U := by simp [ht]
      exact ⟨h.own t hm', h.outk t hm', h.outw t hm', h.new.1 t hm'⟩
    · exact ⟨ha, fa.2.1, fa.2.2, na⟩
    · exact ⟨hb, fb.2.1, fb.2.2, nb⟩
    · have hm' : t ∈ V ++ U := by simp [ht]
      exact ⟨h.own t hm', h.outk t hm', h.outw t hm', h.new.1 t hm'⟩
  refine ⟨by simpa using hl, h.wl.away aw (sep_away h.kw.symm), fun t ht => (hown t ht).1.away aw (sep_away (hown t ht).2.1), ?_, fun t ht s hs => ?_, fun t ht => sep_moved (hown t ht).2.1 hm (hown t ht).1.lt, fun t ht => (hown t ht).2.2.1, (sep_moved h.kw.symm hm h.wl.lt).symm, fun t ht => (hown t ht).2.2.2, h.new.2.1.moved hm hB, h.new.2.2⟩
  · rw [List.pairwise_append]
    refine ⟨h.apart, by simpa using hab, fun s hs t ht => ?_⟩
    simp only [List.mem_cons, List.not_mem_nil, or_false] at ht
    rcases ht with rfl | rfl
    · exact fa.1 s (by simp [hs])
    · exact fb.1 s (by simp [hs])
  · simp only [List.mem_append, List.mem_cons, List.not_mem_nil, or_false] at ht
    rcases ht with ht | rfl | rfl
    · exact h.cross t ht s hs
    · exact (fa.1 s (by simp [hs])).symm
    · exact (fb.1 s (by simp [hs])).symm
/-- Two more copies. -/
theorem Kw.putU {B : Nat} {w w' : World} {kv wv wv' : Value} {V U : List Held} {a b : Held} (h : Kw B w kv wv V U) (hB : B ≤ w.heap.size) (ha : LR w a.v a.l) (hb : LR w b.v b.l) (fa : Free kv wv V U a.v) (fb : Free kv wv V U b.v) (na : New B a.v) (nb : New B b.v)
    (hl : LstV w' wv' (U.map Held.v ++ [a.v, b.v])) (aw : Away wv.ownBlock.toList w w') (hm : Moved w wv wv') : Kw B w' kv wv' V (U ++ [a, b]) := by
  have hown : ∀ t ∈ V ++ (U ++ [a, b]), LR w t.v t.l ∧ Sep t.v.ownBlock.toList kv.ownBlock.toList ∧ Sep t.v.ownBlock.toList wv.ownBlock.toList ∧ New B t.v := fun t ht => by
    simp only [List.mem_append, List.mem_cons, List.not_mem_nil, or_false] at ht
    rcases ht with ht | ht | rfl | rfl
    · have hm' : t ∈ V ++ U := by simp [ht]
      exact ⟨h.own t hm', h.outk t hm', h.outw t hm', h.new.1 t hm'⟩
    · have hm' : t ∈ V ++ U := by simp [ht]
      exact ⟨h.own t hm', h.outk t hm', h.outw t hm', h.new.1 t hm'⟩
    · exact ⟨ha, fa.2.1, fa.2.2, na⟩
    · exact ⟨hb, fb.2.1, fb.2.2, nb⟩
  refine ⟨h.kl.away aw (sep_away h.kw), by simpa using hl, fun t ht => (hown t ht).1.away aw (sep_away (hown t ht).2.2.1), h.apart, fun t ht s hs => ?_, fun t ht => (hown t ht).2.1, fun t ht => sep_moved (hown t ht).2.2.1 hm (hown t ht).1.lt, sep_moved h.kw hm h.kl.lt, fun t ht => (hown t ht).2.2.2, h.new.2.1, h.new.2.2.moved hm hB⟩
  simp only [List.mem_append, List.mem_cons, List.not_mem_nil, or_false] at hs
  rcases hs with hs | rfl | rfl
  · exact h.cross t ht s hs
  · exact fa.1 t (by simp [ht])
  · exact fb.1 t (by simp [ht])
def zipK (V U : List Held) : List Kept := List.zipWith (fun x y => ⟨x.l, x.v, y.v⟩) V U
theorem zip_v : ∀ {V U : List Held}, V.length = U.length → (zipK V U).map Kept.v = V.map Held.v
  | [], [], _ => rfl
  | x :: V, y :: U, h => by
    have := zip_v (V := V) (U := U) (by simpa using h)
    simpa [zipK] using this
  | [], _ :: _, h => by simp at h
  | _ :: _, [], h => by simp at h
theorem zip_u : ∀ {V U : List Held}, V.length = U.length → (zipK V U).map Kept.u = U.map Held.v
  | [], [], _ => rfl
  | x :: V, y :: U, h => by
    have := zip_u (V := V) (U := U) (by simpa using h)
    simpa [zipK] using this
  | [], _ :: _, h => by simp at h
  | _ :: _, [], h => by simp at h
theorem zip_mem : ∀ {V U : List Held} {t : Kept}, t ∈ zipK V U → ∃ x ∈ V, ∃ y ∈ U, t = ⟨x.l, x.v, y.v⟩
  | x :: V, y :: U, t, h => by
    simp only [zipK, List.zipWith_cons_cons, List.mem_cons] at h
    rcases h with rfl | h
    · exact ⟨x, by simp, y, by simp, rfl⟩
    · obtain ⟨x', hx, y', hy, e⟩ := zip_mem (V := V) (U := U) h
      exact ⟨x', by simp [hx], y', by simp [hy], e⟩
  | [], _, t, h => by simp [zipK] at h
  | _ :: _, [], t, h => by simp [zipK] at h
/-- What marked asks. -/
theorem Kw.bag {B : Nat} {w : World} {kv wv : Value} {V U : List Held} {S : List Rt} (h : Kw B w kv wv V U) (hlen : V.length = U.length) (hS : ∀ t ∈ V ++ U, t.l = S) (h32 : S.length ≤ 32) : Bag w kv wv (zipK V U) := by
  refine ⟨by rw [zip_v hlen]; exact h.kl, by rw [zip_u hlen]; exact h.wl, fun t ht => ?_, ?_, fun t ht => ?_⟩
  · obtain ⟨x, hx, y, hy, rfl⟩ := zip_mem ht
    have e1 := hS x (by simp [hx])
    have e2 := hS y (by simp [hy])
    refine ⟨h.own x (by simp [hx]), ?_, by simp only [e1]; exact h32⟩
    have := h.own y (by simp [hy])
    simp only [e1]
    rw [← e2]; exact this
  · have h1 : ((zipK V U).map Kept.v).Pairwise (fun s t => Sep s.ownBlock.toList t.ownBlock.toList) := by
      rw [zip_v hlen]; exact List.pairwise_map.2 h.apart
    exact (List.pairwise_map (R := fun s t : Value => Sep s.ownBlock.toList t.ownBlock.toList) (f := Kept.v)).1 h1
  · obtain ⟨x, hx, y, hy, rfl⟩ := zip_mem ht
    exact h.outk x (by simp [hx])
/-- What marked may have changed. -/
def mkd (V U : List Held) : List Nat := (zipK V U).flatMap (fun t => t.v.ownBlock.toList)
theorem mkd_mem {V U : List Held} {z : Nat} (h : z ∈ mkd V U) : ∃ t ∈ V, t.v.ownBlock = some z := by
  obtain ⟨t, ht, hz⟩ := List.mem_flatMap.1 h
  obtain ⟨x, hx, y, hy, rfl⟩ := zip_mem ht
  exact ⟨x, hx, by simpa using hz⟩
theorem Kw.mkd_new {B : Nat} {w : World} {kv wv : Value} {V U : List Held} (h : Kw B w kv wv V U) : ∀ z ∈ mkd V U, B ≤ z := fun z hz => by
  obtain ⟨t, ht, h1⟩ := mkd_mem hz
  exact h.new.1 t (by simp [ht]) z h1
theorem Kw.first {B : Nat} {w w' : World} {kv wv : Value} {V U : List Held} (h : Kw B w kv wv V U) (aw : Away (mkd V U) w w') {s : Held} (hs : U[0]? = some s) : LR w' s.v s.l ∧ LstV w' wv (U.map Held.v) := by
  refine ⟨(h.own s (by have := List.mem_of_getElem? hs; simp [this])).away aw (fun z hz hc => ?_), h.wl.away aw (fun z hz hc => ?_)⟩
  · obtain ⟨t, ht, h1⟩ := mkd_mem hc
    exact h.cross t ht s (List.mem_of_getElem? hs) z (by simp [h1]) (by simp [hz])
  · obtain ⟨t, ht, h1⟩ := mkd_mem hc
    exact h.outw t (by simp [ht]) z (by simp [h1]) (by simp [hz])
/-- Numbers. -/
def LstI (w : World) (v : Value) (xs : List Int) : Prop := w.ownsRow 0 3 1 v xs.length (xs.map (Value.int .i64))
theorem LstI.away {S : List Nat} {w w' : World} {v : Value} {xs : List Int} (h : LstI w v xs) (hw : Away S w w') (ha : ∀ k, v.ownBlock = some k → k ∉ S) : LstI w' v xs := by
  obtain ⟨h1, h2⟩ := h
  refine ⟨h1, ?_⟩
  rcases h2 with h2 | ⟨g, cap, cur, rfl, hg, hh, r⟩
  · exact .inl h2
  · exact .inr ⟨g, cap, cur, rfl, hg, hw.keep (ha g rfl) hh, r⟩
theorem LstI.on {w w' : World} {v : Value} {xs : List Int} (h : LstI w v xs) (hw : Away [] w w') : LstI w' v xs := h.away hw (by simp)
theorem LstI.nil (w : World) : LstI w (.slice none 0 0) [] := World.ownsRow_nil _ _ _ _
theorem LstI.lt {w : World} {v : Value} {xs : List Int} (h : LstI w v xs) : ∀ k, v.ownBlock = some k → k < w.heap.size := fun k hk => (World.ownsRow.lt h k hk).2
theorem LstI.shape {w : World} {v : Value} {xs : List Int} (h : LstI w v xs) : ∃ a cap, v = .slice a xs.length cap ∧ ∀ i u, xs[i]? = some u → ∃ g, a = some ⟨g, 0, none⟩ ∧ w.cell? ⟨g, i, none⟩ = some (.int .i64 u) := by
  have h0 := h
  rcases h.2 with ⟨rfl, h2⟩ | ⟨g, cap, cur, rfl, hg, hh, hn, hc, hs, ht⟩
  · obtain rfl : xs = [] := by simpa using h2
    exact ⟨none, 0, rfl, by simp⟩
  · refine ⟨some ⟨g, 0, none⟩, cap, rfl, fun i u hu => ⟨g, rfl, ?_⟩⟩
    have hi : i < xs.length := lt_of_get hu
    rw [World.ownsRow.cellAt h0 i (by omega), List.getElem?_map, hu]; rfl
theorem infoI : (Tryd.prog.info? 3).map (fun i => (i.zero, i.size, i.bytes)) = some (some (.int .i64 0), 1, 8) := by kernel_rfl
theorem wpList_appI {w : World} {ops : Array Oper} {rest : List Oper} {o : Oper} {a : Act} {Q : Exit → Act → World → Prop} (hgd : o.guard = none) (s t : Operand)
    (ho : o.op = .call { callee := .builtin .append, args := #[s, t], argTypes := #[44, 44] }) (v : Value) (xs : List Int) (z : Int) (hs : a.eval s = v) (hown : LstI w v xs)
    (ad : Addr) (c : Nat) (ht : a.eval t = .slice (some ad) 1 c) (hz : w.cell? ad = some (.int .i64 z)) (hk : xs.length ≤ 5864062014700)
    (h : ∀ v' w', LstI w' v' (xs ++ [z]) → Away v.ownBlock.toList w w' → Moved w v v' → wpList Tryd.prog ops Q rest (a.put o.dst v') w') : wpList Tryd.prog ops Q (o :: rest) a w := by
  obtain ⟨i0, hi, hz0, hz1, hz2⟩ := info_parts infoI
  obtain ⟨v', w', hrun, r1, r2, r3⟩ := run_appN 44 o.type 3 i0 _ 8 1 Tryd.underlying44 hi hz0 hz1 hz2 rfl (by decide) w v xs.length (xs.map (Value.int .i64)) hown ad 1 c [.int .i64 z] (by simp) (fun j u hj => by
    rcases j with _ | j
    · simp at hj; subst hj; simpa [Addr.add] using hz
    · simp at hj) (by simp [Value.oneCell']) (by unfold maxLen; omega) (by omega)
  refine wpList_plain hgd fun _ hK => ?_
  unfold Oper.wp
  simp [execOp, ho, resolve, invoke, builtin, hs, ht, hrun, Result.andThen]
  refine hK _ _ (h v' w' ?_ ((Away.refl _ _).grown r2 (fun k hk => .inl (by simp [hk]))) r3)
  unfold LstI
  rw [List.length_append, List.map_append]
  exact r1
theorem wpList_buildI {ops : Array Oper} {rest : List Oper} {o : Oper} {a : Act} {w : World} {Q : Exit → Act → World → Prop} (hg : o.guard = none) (x : Operand) (ho : o.op = .buildSlice 44 1 #[(0, x)]) (z : Int) (hx : a.eval x = .int .i64 z)
    (h : ∀ gb w', w.heap.size ≤ gb → w'.cell? ⟨gb, 0, none⟩ = some (.int .i64 z) → Away [] w w' → wpList Tryd.prog ops Q rest (a.put o.dst (.slice (some ⟨gb, 0, none⟩) 1 1)) w') : wpList Tryd.prog ops Q (o :: rest) a w := by
  have e : (Instr.buildSlice 44 1 #[(0, .int .i64 z)]).run Tryd.prog w = .ok (.slice (some ⟨w.heap.size, 0, none⟩) 1 1) (w.alloc (.cells #[.int .i64 z] 3)) := by kernel_rfl
  refine wpList_plain hg fun K hK => ?_
  unfold Oper.wp execOp
  simp only [ho, List.map_toArray, List.map_cons, List.map_nil, hx, e, Sem.run_bind, Result.andThen_ok, Sem.run_pure]
  refine hK _ _ (h w.heap.size _ (Nat.le_refl _) ?_ ((Away.refl [] w).alloc _))
  rw [cell_of_block (block_new w _)]; rfl
/-- What lies ahead of B may change. -/
theorem Kw.low {B : Nat} {S : List Nat} {w w' : World} {kv wv : Value} {V U : List Held} (h : Kw B w kv wv V U) (hw : Away S w w') (hS : ∀ z ∈ S, z < B) : Kw B w' kv wv V U :=
  ⟨h.kl.away hw (fun z hz hc => by have := h.new.2.1 z hz; have := hS z hc; omega), h.wl.away hw (fun z hz hc => by have := h.new.2.2 z hz; have := hS z hc; omega), fun t ht => (h.own t ht).away hw (fun z hz hc => by have := h.new.1 t ht z hz; have := hS z hc; omega), h.apart, h.cross, h.outk, h.outw, h.kw, h.new⟩
def Laid (w : World) (gb : Nat) (xs : List Value) : Prop := ∀ j u, xs[j]? = some u → w.cell? ((⟨gb, 0, none⟩ : Addr).add j) = some u
def flat2 (d e : Rt) : List Value := [d, e].flatMap listD
/-- Two routes laid at once. -/
theorem run_buildS2 (w : World) (d e : Rt) (hd : Okr d) (he : Okr e) : (Instr.buildSlice 22 2 #[(0, .agg (csD d)), (1, .agg (csD e))]).run Tryd.prog w = .ok (.slice (some ⟨w.heap.size, 0, none⟩) 2 2) (w.alloc (.cells (csD d ++ csD e) 41)) := by
  obtain ⟨v, l, b, k⟩ := d
  obtain ⟨b0, b1, b2, b3, b4, b5, b6, b7, b8, b9, b10, b11, b12, b13, b14, b15, rfl⟩ := list16 hd.1
  obtain ⟨v, l, b, k⟩ := e
  obtain ⟨c0, c1, c2, c3, c4, c5, c6, c7, c8, c9, c10, c11, c12, c13, c14, c15, rfl⟩ := list16 he.1
  kernel_rfl
theorem wpList_buildS2 {ops : Array Oper} {rest : List Oper} {o : Oper} {a : Act} {w : World} {Q : Exit → Act → World → Prop} (hg : o.guard = none) (x y : Operand) (ho : o.op = .buildSlice 22 2 #[(0, x), (1, y)]) (d e : Rt) (hx : a.eval x = .agg (csD d)) (hy : a.eval y = .agg (csD e)) (hd : Okr d) (he : Okr e)
    (h : ∀ gb w', w.heap.size ≤ gb → Laid w' gb (flat2 d e) → Away [] w w' → wpList Tryd.prog ops Q rest (a.put o.dst (.slice (some ⟨gb, 0, none⟩) 2 2)) w') : wpList Tryd.prog ops Q (o :: rest) a w := by
  refine wpList_plain hg fun K hK => ?_
  unfold Oper.wp execOp
  simp only [ho, List.map_toArray, List.map_cons, List.map_nil, hx, hy, run_buildS2 w d e hd he, Sem.run_bind, Result.andThen_ok, Sem.run_pure]
  refine hK _ _ (h w.heap.size _ (Nat.le_refl _) (fun j u hj => ?_) ((Away.refl [] w).alloc _))
  rw [add_plain, Nat.zero_add, cell_of_block (block_new w _)]
  simpa [csD, flat2] using hj
/-- Two lists laid at once. -/
theorem wpList_buildV2 {ops : Array Oper} {rest : List Oper} {o : Oper} {a : Act} {w : World} {Q : Exit → Act → World → Prop} (hg : o.guard = none) (x y : Operand) (ho : o.op = .buildSlice 43 2 #[(0, x), (1, y)]) (u v : Value) (hx : a.eval x = u) (hy : a.eval y = v) (hu : ∃ b n c, u = .slice b n c) (hv : ∃ b n c, v = .slice b n c)
    (h : ∀ gb w', w.heap.size ≤ gb → Laid w' gb [u, v] → Away [] w w' → wpList Tryd.prog ops Q rest (a.put o.dst (.slice (some ⟨gb, 0, none⟩) 2 2)) w') : wpList Tryd.prog ops Q (o :: rest) a w := by
  obtain ⟨b, n, c, rfl⟩ := hu
  obtain ⟨b', n', c', rfl⟩ := hv
  have e : (Instr.buildSlice 43 2 #[(0, .slice b n c), (1, .slice b' n' c')]).run Tryd.prog w = .ok (.slice (some ⟨w.heap.size, 0, none⟩) 2 2) (w.alloc (.cells #[.slice b n c, .slice b' n' c'] 22)) := by kernel_rfl
  refine wpList_plain hg fun K hK => ?_
  unfold Oper.wp execOp
  simp only [ho, List.map_toArray, List.map_cons, List.map_nil, hx, hy, e, Sem.run_bind, Result.andThen_ok, Sem.run_pure]
  refine hK _ _ (h w.heap.size _ (Nat.le_refl _) (fun j u hj => ?_) ((Away.refl [] w).alloc _))
  rw [add_plain, Nat.zero_add, cell_of_block (block_new w _)]
  simpa using hj
end Go.Proofs.YtoifolmcdkfniaaDoor
