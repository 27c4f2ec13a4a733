/-
  RecutKeeps: the lists told, their copies, and the two lists that hold them.
-/
import Derived.Test.YtaicckenpplceaaDoorLa
namespace Go.Proofs.YtaicckenpplceaaDoor
open Go.ChangeShapes Go.WideShapes Go.ChangeAt Go.RowKit Num
set_option linter.unusedVariables false
set_option maxHeartbeats 4000000
set_option maxRecDepth 100000
namespace R
open Mk (Kept LstV)
structure RK (B : Nat) (w : World) (kv wv : Value) (T : List Kept) (F : List (Value × List Int)) : Prop where
  kl : LstV w kv (T.map Kept.v)
  wl : LstV w wv (T.map Kept.u)
  own : ∀ t ∈ T, Owns w t.v t.p ∧ Owns w t.u t.p ∧ Bytes t.p ∧ t.p.length ≤ 65535
  fr : ∀ f ∈ F, Owns w f.1 f.2 ∧ Bytes f.2 ∧ f.2.length ≤ 65535
  ap : (T.map Kept.v ++ F.map (·.1)).Pairwise (fun a b => ∀ k, a.ownBlock = some k → b.ownBlock ≠ some k)
  kb : ∀ k, kv.ownBlock = some k → B ≤ k ∧ (∀ t ∈ T, t.v.ownBlock ≠ some k ∧ t.u.ownBlock ≠ some k) ∧ ∀ f ∈ F, f.1.ownBlock ≠ some k
  wb : ∀ k, wv.ownBlock = some k → B ≤ k ∧ kv.ownBlock ≠ some k ∧ (∀ t ∈ T, t.v.ownBlock ≠ some k ∧ t.u.ownBlock ≠ some k) ∧ ∀ f ∈ F, f.1.ownBlock ≠ some k
  tb : ∀ t ∈ T, ∀ k, t.v.ownBlock = some k ∨ t.u.ownBlock = some k → B ≤ k
  fb : ∀ f ∈ F, ∀ k, f.1.ownBlock = some k → B ≤ k
theorem RK.start (w : World) : RK w.heap.size w (.slice none 0 0) (.slice none 0 0) [] [] :=
  ⟨Mk.LstV.nil w, Mk.LstV.nil w, by simp, by simp, by simp, by simp [Value.ownBlock], by simp [Value.ownBlock], by simp, by simp⟩
section
variable {B : Nat} {w w' : World} {kv wv : Value} {T : List Kept} {F : List (Value × List Int)}
theorem RK.on (h : RK B w kv wv T F) (hw : Away [] w w') : RK B w' kv wv T F :=
  ⟨h.kl.on hw, h.wl.on hw, fun t ht => ⟨(h.own t ht).1.on hw, (h.own t ht).2.1.on hw, (h.own t ht).2.2⟩, fun f hf => ⟨(h.fr f hf).1.on hw, (h.fr f hf).2⟩, h.ap, h.kb, h.wb, h.tb, h.fb⟩
theorem RK.more (h : RK B w kv wv T F) (hw : Away [] w w') (hB : B ≤ w.heap.size) (G : List (Value × List Int)) (hG : ∀ f ∈ G, Owns w' f.1 f.2 ∧ Bytes f.2 ∧ f.2.length ≤ 65535) (hap : (G.map (·.1)).Pairwise (fun a b => ∀ k, a.ownBlock = some k → b.ownBlock ≠ some k)) (hn : ∀ f ∈ G, ∀ k, f.1.ownBlock = some k → w.heap.size ≤ k) : RK B w' kv wv T (F ++ G) := by
  have hk := h.on hw
  refine ⟨hk.kl, hk.wl, hk.own, fun f hf => ?_, ?_, fun k hk' => ⟨(h.kb k hk').1, (h.kb k hk').2.1, fun f hf => ?_⟩, fun k hk' => ⟨(h.wb k hk').1, (h.wb k hk').2.1, (h.wb k hk').2.2.1, fun f hf => ?_⟩, h.tb, fun f hf => ?_⟩
  · rcases List.mem_append.1 hf with h1 | h1
    · exact hk.fr f h1
    · exact hG f h1
  · rw [List.map_append, ← List.append_assoc]
    refine List.pairwise_append.2 ⟨h.ap, hap, fun a ha b hb k hk' he => ?_⟩
    obtain ⟨g, hg, rfl⟩ := List.mem_map.1 hb
    have h2 := hn g hg k he
    rcases List.mem_append.1 ha with h1 | h1
    · obtain ⟨t, ht, rfl⟩ := List.mem_map.1 h1
      have := (h.own t ht).1.lt k hk'; omega
    · obtain ⟨f, hf, rfl⟩ := List.mem_map.1 h1
      have := (h.fr f hf).1.lt k hk'; omega
  · rcases List.mem_append.1 hf with h1 | h1
    · exact (h.kb k hk').2.2 f h1
    · intro he; have := hn f h1 k he; have := h.kl.lt k hk'; omega
  · rcases List.mem_append.1 hf with h1 | h1
    · exact (h.wb k hk').2.2.2 f h1
    · intro he; have := hn f h1 k he; have := h.wl.lt k hk'; omega
  · rcases List.mem_append.1 hf with h1 | h1
    · exact h.fb f h1
    · intro k he; have := hn f h1 k he; omega
theorem RK.take {o d kv' wv' c1 c2 : Value} {lo ld : List Int} {w1 w3 w4 : World} (h : RK B w kv wv T ((o, lo) :: (d, ld) :: F)) (hB : B ≤ w.heap.size) (hl1 : LstV w1 kv' (T.map Kept.v ++ [o, d])) (a1 : Away kv.ownBlock.toList w w1) (m1 : Moved w kv kv')
    (a3 : Away [] w1 w3) (o1 : Owns w3 c1 lo) (o2 : Owns w3 c2 ld) (n1 : New w1.heap.size c1) (n2 : New w1.heap.size c2) (hl4 : LstV w4 wv' (T.map Kept.u ++ [c1, c2])) (a4 : Away wv.ownBlock.toList w3 w4) (m4 : Moved w3 wv wv') : RK B w4 kv' wv' (T ++ [⟨lo, o, c1⟩, ⟨ld, d, c2⟩]) F := by
  have s1 := a1.size
  have s3 := a3.size
  have hkl := h.kl.lt
  have hwl := h.wl.lt
  have fo := h.fr (o, lo) (by simp)
  have fd := h.fr (d, ld) (by simp)
  have keep : ∀ (x : Value) (l : List Int), Owns w x l → (∀ k, x.ownBlock = some k → kv.ownBlock ≠ some k ∧ wv.ownBlock ≠ some k) → Owns w4 x l := fun x l hx hk => ((hx.away a1 (fun k h1 h2 => (hk k h1).1 (by simpa using h2))).on a3).away a4 (fun k h1 h2 => (hk k h1).2 (by simpa using h2))
  have kT : ∀ t ∈ T, Owns w4 t.v t.p ∧ Owns w4 t.u t.p := fun t ht => ⟨keep _ _ (h.own t ht).1 (fun k hk => ⟨fun he => ((h.kb k he).2.1 t ht).1 hk, fun he => ((h.wb k he).2.2.1 t ht).1 hk⟩), keep _ _ (h.own t ht).2.1 (fun k hk => ⟨fun he => ((h.kb k he).2.1 t ht).2 hk, fun he => ((h.wb k he).2.2.1 t ht).2 hk⟩)⟩
  have kF : ∀ f ∈ (o, lo) :: (d, ld) :: F, Owns w4 f.1 f.2 := fun f hf => keep _ _ (h.fr f hf).1 (fun k hk => ⟨fun he => (h.kb k he).2.2 f hf hk, fun he => (h.wb k he).2.2.2 f hf hk⟩)
  have nc1 : ∀ k, c1.ownBlock = some k → wv.ownBlock ≠ some k := fun k hk he => by have := n1 k hk; have := hwl k he; omega
  have nc2 : ∀ k, c2.ownBlock = some k → wv.ownBlock ≠ some k := fun k hk he => by have := n2 k hk; have := hwl k he; omega
  have q1 := o1.lt
  have q2 := o2.lt
  have kvl := hl1.lt
  refine ⟨?_, ?_, fun t ht => ?_, fun f hf => ⟨kF f (by simp [hf]), (h.fr f (by simp [hf])).2⟩, ?_, fun k hk => ?_, fun k hk => ?_, fun t ht k hk => ?_, fun f hf => h.fb f (by simp [hf])⟩
  · rw [List.map_append]
    refine (hl1.on a3).away a4 (fun k hk hc => ?_)
    have hc' : wv.ownBlock = some k := by simpa using hc
    rcases m1 k hk with h1 | h1
    · exact (h.wb k hc').2.1 h1
    · have := hwl k hc'; omega
  · rw [List.map_append]; exact hl4
  · rcases List.mem_append.1 ht with h1 | h1
    · exact ⟨(kT t h1).1, (kT t h1).2, (h.own t h1).2.2⟩
    · simp only [List.mem_cons, List.not_mem_nil, or_false] at h1
      rcases h1 with rfl | rfl
      · exact ⟨kF (o, lo) (by simp), o1.away a4 (fun k hk hc => nc1 k hk (by simpa using hc)), fo.2⟩
      · exact ⟨kF (d, ld) (by simp), o2.away a4 (fun k hk hc => nc2 k hk (by simpa using hc)), fd.2⟩
  · have := h.ap
    rw [List.map_append, List.append_assoc]
    exact this
  · have hkn : B ≤ k := by
      rcases m1 k hk with h1 | h1
      · exact (h.kb k h1).1
      · omega
    refine ⟨hkn, fun t ht => ?_, fun f hf he => ?_⟩
    · rcases List.mem_append.1 ht with h2 | h2
      · rcases m1 k hk with h1 | h1
        · exact (h.kb k h1).2.1 t h2
        · exact ⟨fun he => by have := (h.own t h2).1.lt k he; omega, fun he => by have := (h.own t h2).2.1.lt k he; omega⟩
      · simp only [List.mem_cons, List.not_mem_nil, or_false] at h2
        have hk1 := kvl k hk
        rcases h2 with rfl | rfl
        · refine ⟨fun he => ?_, fun he => by have := n1 k he; omega⟩
          rcases m1 k hk with h1 | h1
          · exact (h.kb k h1).2.2 (o, lo) (by simp) he
          · have := fo.1.lt k he; omega
        · refine ⟨fun he => ?_, fun he => by have := n2 k he; omega⟩
          rcases m1 k hk with h1 | h1
          · exact (h.kb k h1).2.2 (d, ld) (by simp) he
          · have := fd.1.lt k he; omega
    · rcases m1 k hk with h1 | h1
      · exact (h.kb k h1).2.2 f (by simp [hf]) he
      · have := (h.fr f (by simp [hf])).1.lt k he; omega
  · rcases m4 k hk with h1 | h1
    · have hb := h.wb k h1
      have hkw := hwl k h1
      refine ⟨hb.1, fun he => ?_, fun t ht => ?_, fun f hf => hb.2.2.2 f (by simp [hf])⟩
      · rcases m1 k he with h2 | h2
        · exact hb.2.1 h2
        · omega
      · rcases List.mem_append.1 ht with h2 | h2
        · exact hb.2.2.1 t h2
        · simp only [List.mem_cons, List.not_mem_nil, or_false] at h2
          rcases h2 with rfl | rfl
          · exact ⟨hb.2.2.2 (o, lo) (by simp), fun he => by have := n1 k he; omega⟩
          · exact ⟨hb.2.2.2 (d, ld) (by simp), fun he => by have := n2 k he; omega⟩
    · refine ⟨by omega, fun he => by have := kvl k he; omega, fun t ht => ?_, fun f hf he => by have := (h.fr f (by simp [hf])).1.lt k he; omega⟩
      rcases List.mem_append.1 ht with h2 | h2
      · exact ⟨fun he => by have := (h.own t h2).1.lt k he; omega, fun he => by have := (h.own t h2).2.1.lt k he; omega⟩
      · simp only [List.mem_cons, List.not_mem_nil, or_false] at h2
        rcases h2 with rfl | rfl
        · exact ⟨fun he => by have := fo.1.lt k he; omega, fun he => by have := q1 k he; omega⟩
        · exact ⟨fun he => by have := fd.1.lt k he; omega, fun he => by have := q2 k he; omega⟩
  · rcases List.mem_append.1 ht with h2 | h2
    · exact h.tb t h2 k hk
    · simp only [List.mem_cons, List.not_mem_nil, or_false] at h2
      rcases h2 with rfl | rfl
      · rcases hk with hk | hk
        · exact h.fb (o, lo) (by simp) k hk
        · have := n1 k hk; omega
      · rcases hk with hk | hk
        · exact h.fb (d, ld) (by simp) k hk
        · have := n2 k hk; omega
theorem RK.bag (h : RK B w kv wv T []) : Mk.Bag w kv wv T := by
  refine ⟨h.kl, h.wl, fun t ht => ⟨(h.own t ht).1, (h.own t ht).2.1, (h.own t ht).2.2.1, by have := (h.own t ht).2.2.2; omega⟩, ?_, fun t ht x hx hc => ?_⟩
  · have := h.ap
    rw [List.map_nil, List.append_nil, List.pairwise_map] at this
    exact this.imp (fun {s t} hst x hx hc => hst x (by simpa using hx) (by simpa using hc))
  · exact ((h.kb x (by simpa using hc)).2.1 t ht).1 (by simpa using hx)
end
/-- The lists of packets. -/
def lotX (xs : List X) : List (Value × List Int) := xs.flatMap fun x => [(x.o, x.p.o), (x.d, x.p.d)]
theorem lotX_mem {xs : List X} {r : Value × List Int} (h : r ∈ lotX xs) : ∃ x ∈ xs, r = (x.o, x.p.o) ∨ r = (x.d, x.p.d) := by
  obtain ⟨x, hx, hr⟩ := List.mem_flatMap.1 h
  exact ⟨x, hx, by simpa using hr⟩
theorem lotX_app (xs ys : List X) : lotX (xs ++ ys) = lotX xs ++ lotX ys := by simp [lotX]
theorem lotX_drop {xs : List X} {i : Nat} {x : X} (h : xs[i]? = some x) : lotX (xs.drop i) = (x.o, x.p.o) :: (x.d, x.p.d) :: lotX (xs.drop (i + 1)) := by
  have hi := lt_of_get h
  have hx : xs[i] = x := by rw [List.getElem?_eq_getElem hi] at h; simpa using h
  rw [List.drop_eq_getElem_cons hi, hx]; rfl
theorem Cuts.lotp {w : World} {B : Nat} {v : Value} {xs : List X} (h : Cuts w B v xs) : ((lotX xs).map (·.1)).Pairwise (fun a b => ∀ k, a.ownBlock = some k → b.ownBlock ≠ some k) := by
  rw [List.pairwise_map]
  unfold lotX
  rw [List.pairwise_flatMap]
  refine ⟨fun x hx => by simpa using (h.each x hx).2.ap, h.apart.imp ?_⟩
  intro x y hxy r hr s hs k hk
  simp only [List.mem_cons, List.not_mem_nil, or_false] at hr hs
  have h1 : x.o.ownBlock = some k ∨ x.d.ownBlock = some k := by
    rcases hr with rfl | rfl
    · exact .inl hk
    · exact .inr hk
  rcases hs with rfl | rfl
  · exact (hxy k h1).1
  · exact (hxy k h1).2
/-- What is cut, as free lists. -/
theorem RK.cuts {B : Nat} {w w' : World} {kv wv v : Value} {T : List Kept} {F : List (Value × List Int)} {xs : List X} (h : RK B w kv wv T F) (hw : Away [] w w') (hB : B ≤ w.heap.size) (hc : Cuts w' w.heap.size v xs) (hl : ∀ x ∈ xs, x.p.o.length ≤ 65535 ∧ x.p.d.length ≤ 65535) : RK B w' kv wv T (F ++ lotX xs) := by
  refine h.more hw hB _ (fun f hf => ?_) (Cuts.lotp hc) (fun f hf k hk => ?_)
  · obtain ⟨x, hx, rfl | rfl⟩ := lotX_mem hf
    · exact ⟨(hc.each x hx).2.o, (hc.each x hx).1.o, (hl x hx).1⟩
    · exact ⟨(hc.each x hx).2.d, (hc.each x hx).1.d, (hl x hx).2⟩
  · obtain ⟨x, hx, rfl | rfl⟩ := lotX_mem hf
    · exact (hc.each x hx).2.no k hk
    · exact (hc.each x hx).2.nd k hk
theorem RK.mine {B : Nat} {w w' : World} {kv wv ov dv : Value} {T : List Kept} {F : List (Value × List Int)} {p : Pk} (h : RK B w kv wv T F) (hw : Away [] w w') (hB : B ≤ w.heap.size) (hm : Mine w' w.heap.size p ov dv) (hp : Wf p) (h1 : p.o.length ≤ 65535) (h2 : p.d.length ≤ 65535) : RK B w' kv wv T (F ++ lotX [⟨p, ov, dv⟩]) := by
  refine h.more hw hB _ (fun f hf => ?_) ?_ (fun f hf k hk => ?_)
  · obtain ⟨x, hx, hr⟩ := lotX_mem hf
    simp at hx; subst hx
    rcases hr with rfl | rfl
    · exact ⟨hm.o, hp.o, h1⟩
    · exact ⟨hm.d, hp.d, h2⟩
  · simpa [lotX] using hm.ap
  · obtain ⟨x, hx, hr⟩ := lotX_mem hf
    simp at hx; subst hx
    rcases hr with rfl | rfl
    · exact hm.no k hk
    · exact hm.nd k hk
theorem RK.away {S : List Nat} {B : Nat} {w w' : World} {kv wv : Value} {T : List Kept} {F : List (Value × List Int)} (h : RK B w kv wv T F) (hw : Away S w w') (h1 : ∀ k ∈ S, kv.ownBlock ≠ some k ∧ wv.ownBlock ≠ some k) (h2 : ∀ k ∈ S, ∀ t ∈ T, t.v.ownBlock ≠ some k ∧ t.u.ownBlock ≠ some k) (h3 : ∀ k ∈ S, ∀ f ∈ F, f.1.ownBlock ≠ some k) : RK B w' kv wv T F :=
  ⟨h.kl.away hw (fun k hk hc => (h1 k hc).1 hk), h.wl.away hw (fun k hk hc => (h1 k hc).2 hk), fun t ht => ⟨(h.own t ht).1.away hw (fun k hk hc => (h2 k hc t ht).1 hk), (h.own t ht).2.1.away hw (fun k hk hc => (h2 k hc t ht).2 hk), (h.own t ht).2.2⟩, fun f hf => ⟨(h.fr f hf).1.away hw (fun k hk hc => h3 k hc f hf hk), (h.fr f hf).2⟩, h.ap, h.kb, h.wb, h.tb, h.fb⟩
theorem cutd_wf {q : Pk} (h : Wf q) (n : Nat) : Wf { q with d := q.d.take n } :=
  ⟨h.v, h.tos, h.flow, h.sv, h.sl, h.sb, h.dv, h.dl, h.db, h.proto, h.ttl, h.id0, h.id1, h.off, h.o, h.ol, h.d.take n, by show (q.d.take n).length ≤ _; have := h.dn; rw [List.length_take]; omega⟩
theorem cutd_unc {q : Pk} (h : Unc q) (n : Nat) : Unc ({ q with d := q.d.take n } : Pk) := by
  refine ⟨?_, h.off, h.more, h.frag⟩
  have hr := h.r
  have hl : (q.d.take n).length ≤ q.d.length := by rw [List.length_take]; omega
  have ho := h.off
  unfold rgtP at hr ⊢
  by_cases hv : q.v = 6
  · rw [if_pos hv, S6.right_iff] at hr
    refine (if_pos hv).trans ((S6.right_iff _).2 ?_)
    refine ⟨hr.v, hr.df, hr.o, hr.f0, hr.f1, hr.t0, hr.t1, hr.l0, hr.l1, hr.r0, hr.r1, hr.r44, hr.sv, hr.dv, hr.o0, hr.o1, hr.o8, fun e => ?_, fun e => ?_, ?_, hr.bare, ?_⟩
    · rw [show ({ q with d := q.d.take n } : Pk).more = q.more from rfl, h.more] at e; simp at e
    · rcases e with e | e
      · rw [show ({ q with d := q.d.take n } : Pk).more = q.more from rfl, h.more] at e; simp at e
      · rw [show ({ q with d := q.d.take n } : Pk).off = q.off from rfl, h.off] at e; simp at e
    · have := hr.reach; show q.off + ((q.d.take n).length : Int) ≤ 65535; omega
    · have := hr.all; show S6.hofP q - 40 + (q.d.take n).length ≤ 65535; omega
  · rw [if_neg hv, right_iff] at hr
    have hr1 := hr.1
    refine (if_neg hv).trans ((right_iff _).2 ⟨?_, hr.2⟩)
    refine ⟨hr1.v, hr1.flow, hr1.frag, hr1.id, hr1.t0, hr1.t1, hr1.l0, hr1.l1, hr1.r0, hr1.r1, hr1.sv, hr1.sb, hr1.dv, hr1.db, hr1.o0, hr1.o1, hr1.o8, fun e => ?_, fun e => ?_, fun e => ?_, ?_, ?_⟩
    · rw [show ({ q with d := q.d.take n } : Pk).more = q.more from rfl, h.more] at e; simp at e
    · rw [show ({ q with d := q.d.take n } : Pk).more = q.more from rfl, h.more] at e; simp at e
    · rw [show ({ q with d := q.d.take n } : Pk).off = q.off from rfl, h.off] at e; simp at e
    · have := hr1.reach; show q.off + ((q.d.take n).length : Int) ≤ 65535; omega
    · have := hr1.all; show 20 + q.o.length + (q.d.take n).length ≤ 65535; omega

/-- A packet, its variable and its lists, which lie between A and B. -/
structure QV (A B : Nat) (w : World) (g : Nat) (q : Pk) (ov dv : Value) : Prop where
  box : BoxP w g q ov dv
  pkt : Pkt w q ov dv
  lo : A ≤ g
  hi : g < B
  ls : ∀ k, ov.ownBlock = some k ∨ dv.ownBlock = some k → A ≤ k ∧ k < B ∧ k ≠ g
theorem QV.away {S : List Nat} {A B : Nat} {w w' : World} {g : Nat} {q : Pk} {ov dv : Value} (h : QV A B w g q ov dv) (hw : Away S w w') (hS : ∀ k ∈ S, k < A ∨ B ≤ k) : QV A B w' g q ov dv := by
  have h1 := h.lo; have h2 := h.hi
  exact ⟨h.box.away hw (fun hc => by have := hS _ hc; omega), ⟨h.pkt.wf, h.pkt.o.away hw (fun _ k hk hc => by have := hS _ hc; have := h.ls k (.inl hk); omega), h.pkt.d.away hw (fun _ k hk hc => by have := hS _ hc; have := h.ls k (.inr hk); omega)⟩, h.lo, h.hi, h.ls⟩
theorem QV.on {A B : Nat} {w w' : World} {g : Nat} {q : Pk} {ov dv : Value} (h : QV A B w g q ov dv) (hw : Away [] w w') : QV A B w' g q ov dv := h.away hw (by simp)
/-- Its own variable written. -/
theorem QV.put {A B : Nat} {w w' : World} {g : Nat} {q q' : Pk} {ov dv : Value} (h : QV A B w g q ov dv) (hb : BoxP w' g q' ov dv) (hw : Away [g] w w') (hq : Wf q') (ho : q'.o = q.o) (hd : q'.d = q.d) : QV A B w' g q' ov dv :=
  ⟨hb, ⟨hq, by rw [ho]; exact h.pkt.o.away hw (fun _ k hk hc => by simp at hc; have := h.ls k (.inl hk); omega), by rw [hd]; exact h.pkt.d.away hw (fun _ k hk hc => by simp at hc; have := h.ls k (.inr hk); omega)⟩, h.lo, h.hi, h.ls⟩
theorem QV.putd {A B : Nat} {w w' : World} {g : Nat} {q q' : Pk} {ov : Value} {a : Option Addr} {n m c : Nat} (h : QV A B w g q ov (.slice a n c)) (hb : BoxP w' g q' ov (.slice a m c)) (hw : Away [g] w w') (hq : Wf q') (ho : q'.o = q.o) (hd : q'.d = q.d.take m) (hm : m ≤ n) : QV A B w' g q' ov (.slice a m c) := by
  have h1 := h.pkt.d.away hw (fun _ k hk hc => by simp at hc; have := h.ls k (.inr hk); omega)
  have h2 := h1.of
  refine ⟨hb, ⟨hq, by rw [ho]; exact h.pkt.o.away hw (fun _ k hk hc => by simp at hc; have := h.ls k (.inl hk); omega), ?_⟩, h.lo, h.hi, fun k hk => h.ls k (by cases a <;> simpa [Value.ownBlock] using hk)⟩
  rw [hd]
  exact ⟨a, c, by rw [List.length_take, Nat.min_eq_left (by omega)], by rw [List.length_take]; omega, h2.2.2.1, h2.2.2.2.head m⟩
theorem Cuts.shape {w : World} {B : Nat} {v : Value} {xs : List X} (h : Cuts w B v xs) (hx : xs ≠ []) : ∃ g cap, v = .slice (some ⟨g, 0, none⟩) xs.length cap ∧ B ≤ g ∧ g < w.heap.size ∧ xs.length ≤ cap := by
  rcases h.lst.2 with ⟨rfl, h0⟩ | ⟨g, cap, cur, rfl, hg, hh, hnc, r⟩
  · exact absurd (List.eq_nil_of_length_eq_zero h0) hx
  · exact ⟨g, cap, rfl, h.new g rfl, h.lst.lt g rfl, hnc⟩
theorem Cuts.pks' {w : World} {B : Nat} {a : Option Addr} {n c : Nat} {xs : List X} (h : Cuts w B (.slice a n c) xs) (hl : xs.length ≤ 500000000000) : Pks w a xs := by
  obtain ⟨a', c', e, -, -, hp, -⟩ := h.pks hl
  simp only [Value.slice.injEq] at e
  rw [e.1]; exact hp
theorem run_clone (ty : TypeId) (w : World) (xv : Value) (l : List Int) (hsl : Sl w xv l) : ∃ v' w', (Builtin.append_ #[26, 26] ty #[.slice none 0 0, xv]).run Tryd.prog w = .ok v' w' ∧ Owns w' v' l ∧ New w.heap.size v' ∧ Away [] w w' := by
  obtain ⟨a, cap, rfl, h1, h2, h3⟩ := hsl
  cases a with
  | none =>
    have := h2 rfl
    subst this
    obtain rfl : l = [] := List.eq_nil_of_length_eq_zero (by omega)
    exact ⟨_, _, by kernel_rfl, Owns.nil _, New.nil _, Away.refl _ _⟩
  | some ad =>
    obtain ⟨v', w', hr, r1, r2, r3⟩ := run_appB ty w (.slice none 0 0) [] l (Owns.nil _) ad l.length cap rfl h3.src (by have := h3.1; simpa using this)
    refine ⟨v', w', hr, by simpa using r1, fun k hk => ?_, (Away.refl _ _).grown r2 (by simp [Value.ownBlock])⟩
    rcases r3 k hk with h | h
    · simp [Value.ownBlock] at h
    · exact h
theorem step_clone {ops : Array Oper} {o : Oper} {a : Act} {w : World} {K : Act → World → Prop} {Q : Exit → Act → World → Prop} {E : Prop} (hg : o.guard = none) (s x : Operand)
    (hop : o.op = .call { callee := .builtin .append, args := #[s, x], argTypes := #[26, 26] }) (xv : Value) (l : List Int) (hs : a.eval s = .slice none 0 0) (hx : a.eval x = xv) (hsl : Sl w xv l)
    (hK : ∀ v' w', Owns w' v' l → New w.heap.size v' → Away [] w w' → K (a.put o.dst v') w') :
    if Region.wanted o (yielded ops a.tmps) = true then Oper.wp Tryd.prog o a w K Q else E := by
  have hw : Region.wanted o (yielded ops a.tmps) = true := by simp [Region.wanted, hg]
  rw [if_pos hw]
  obtain ⟨v', w', hrun, r1, r2, r3⟩ := run_clone o.type w xv l hsl
  unfold Oper.wp
  simp [execOp, hop, resolve, invoke, builtin, hs, hx, hrun, Result.andThen]
  exact hK v' w' r1 r2 r3
theorem step_appV {ops : Array Oper} {o : Oper} {a : Act} {w : World} {K : Act → World → Prop} {Q : Exit → Act → World → Prop} {E : Prop} (hg : o.guard = none) (s t : Operand)
    (ho : o.op = .call { callee := .builtin .append, args := #[s, t], argTypes := #[50, 50] }) (v : Value) (xs us : List Value) (hs : a.eval s = v) (hown : LstV w v xs)
    (ad : Addr) (n c : Nat) (ht : a.eval t = .slice (some ad) n c) (hn : us.length = n) (hu : ∀ j u, us[j]? = some u → w.cell? (ad.add j) = some u) (h1 : ∀ u ∈ us, u.oneCell' = true) (hk : xs.length + n ≤ 1000000000)
    (hK : ∀ v' w', LstV w' v' (xs ++ us) → Away v.ownBlock.toList w w' → Moved w v v' → K (a.put o.dst v') w') :
    if Region.wanted o (yielded ops a.tmps) = true then Oper.wp Tryd.prog o a w K Q else E := by
  have hw : Region.wanted o (yielded ops a.tmps) = true := by simp [Region.wanted, hg]
  rw [if_pos hw]
  subst hn
  obtain ⟨i0, hi, hz0, hz1, hz2⟩ := info_parts Mk.info25v
  obtain ⟨v', w', hrun, r1, r2, r3⟩ := run_appN 50 o.type 26 i0 _ 24 1 Tryd.underlying50 hi hz0 hz1 hz2 rfl (by decide) w v xs.length xs hown ad us.length c us (by simp) hu h1 (by unfold maxLen; omega) (by omega)
  unfold Oper.wp
  simp [execOp, ho, resolve, invoke, builtin, hs, ht, hrun, Result.andThen]
  refine hK v' w' ?_ ((Away.refl _ _).grown r2 (fun k hk => .inl (by simp [hk]))) r3
  unfold LstV
  rw [List.length_append]
  exact r1
theorem two_cells (w : World) (x y : Value) (n : Nat) (hn : n = w.heap.size) : ∀ j u, [x, y][j]? = some u → (w.alloc (.cells #[x, y] 26)).cell? ((⟨n, 0, none⟩ : Addr).add j) = some u := by
  intro j u hj
  subst hn
  rw [add_plain, Nat.zero_add, cell_of_block (block_new w _)]
  simpa using hj
end R
end Go.Proofs.YtaicckenpplceaaDoor
