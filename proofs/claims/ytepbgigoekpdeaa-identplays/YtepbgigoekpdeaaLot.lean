/-
  Things in memory, apart from one another; scripts that came in.
-/
import Derived.Test.YtepbgigoekpdeaaRef
namespace Go.Proofs.Ytepbgigoekpdeaa
open Go.ChangeShapes Go.WideShapes Go.ChangeAt Go.RowKit Go.Deep
set_option linter.unusedVariables false
set_option maxRecDepth 100000

structure Ob where
  ft : List Nat
  ok : World → Prop
structure Ob.Fine (o : Ob) : Prop where
  away : ∀ {S : List Nat} {w w' : World}, o.ok w → Away S w w' → (∀ x ∈ o.ft, x ∉ S) → o.ok w'
  lt : ∀ {w : World}, o.ok w → ∀ x ∈ o.ft, x < w.heap.size
structure Lot (B w : World) (l : List Ob) : Prop where
  fine : ∀ o ∈ l, o.Fine
  ok : ∀ o ∈ l, o.ok w
  new : ∀ o ∈ l, ∀ x ∈ o.ft, B.heap.size ≤ x
  dis : l.Pairwise (fun o p => ∀ x ∈ o.ft, x ∉ p.ft)
  aw : Away [] B w
theorem Lot.perm {B w : World} {l m : List Ob} (h : Lot B w l) (hp : l.Perm m) : Lot B w m :=
  ⟨fun o ho => h.fine o (hp.mem_iff.2 ho), fun o ho => h.ok o (hp.mem_iff.2 ho), fun o ho => h.new o (hp.mem_iff.2 ho), hp.pairwise h.dis (fun {a b} hab x hx hy => hab x hy hx), h.aw⟩
theorem Lot.on {B w w' : World} {l : List Ob} (h : Lot B w l) (hw : Away [] w w') : Lot B w' l :=
  ⟨h.fine, fun o ho => (h.fine o ho).away (h.ok o ho) hw (by simp), h.new, h.dis, h.aw.trans hw⟩
/-- The first one is changed. -/
theorem Lot.turn {B w w' : World} {l : List Ob} {o p : Ob} {S : List Nat} (h : Lot B w (o :: l)) (hf : p.Fine) (hp : p.ok w') (hw : Away S w w') (hS : ∀ x ∈ S, x ∈ o.ft) (hsub : ∀ x ∈ p.ft, x ∈ o.ft ∨ w.heap.size ≤ x) : Lot B w' (p :: l) := by
  have hz := h.aw.size
  have hd := h.dis
  rw [List.pairwise_cons] at hd
  obtain ⟨d1, d2⟩ := hd
  refine ⟨?_, ?_, ?_, ?_, h.aw.next hw (fun x hx => .inr (h.new o (by simp) x (hS x hx)))⟩
  · intro q hq
    rcases List.mem_cons.1 hq with rfl | hq
    · exact hf
    · exact h.fine q (by simp [hq])
  · intro q hq
    rcases List.mem_cons.1 hq with rfl | hq
    · exact hp
    · exact (h.fine q (by simp [hq])).away (h.ok q (by simp [hq])) hw (fun x hx hs => d1 q hq x (hS x hs) hx)
  · intro q hq x hx
    rcases List.mem_cons.1 hq with rfl | hq
    · rcases hsub x hx with h' | h'
      · exact h.new o (by simp) x h'
      · omega
    · exact h.new q (by simp [hq]) x hx
  · rw [List.pairwise_cons]
    refine ⟨fun q hq x hx hxq => ?_, d2⟩
    rcases hsub x hx with h' | h'
    · exact d1 q hq x h' hxq
    · have := (h.fine q (by simp [hq])).lt (h.ok q (by simp [hq])) x hxq; omega
/-- One more, in new memory. -/
theorem Lot.add {B w w' : World} {l : List Ob} {p : Ob} (h : Lot B w l) (hf : p.Fine) (hp : p.ok w') (hw : Away [] w w') (hsub : ∀ x ∈ p.ft, w.heap.size ≤ x) : Lot B w' (p :: l) := by
  have hz := h.aw.size
  refine ⟨?_, ?_, ?_, ?_, h.aw.trans hw⟩
  · intro q hq
    rcases List.mem_cons.1 hq with rfl | hq
    · exact hf
    · exact h.fine q hq
  · intro q hq
    rcases List.mem_cons.1 hq with rfl | hq
    · exact hp
    · exact (h.fine q hq).away (h.ok q hq) hw (by simp)
  · intro q hq x hx
    rcases List.mem_cons.1 hq with rfl | hq
    · have := hsub x hx; omega
    · exact h.new q hq x hx
  · rw [List.pairwise_cons]
    refine ⟨fun q hq x hx hxq => ?_, h.dis⟩
    have := hsub x hx
    have := (h.fine q hq).lt (h.ok q hq) x hxq
    omega
theorem Lot.less {B w : World} {l : List Ob} {o : Ob} (h : Lot B w (o :: l)) : Lot B w l := by
  have hd := h.dis
  rw [List.pairwise_cons] at hd
  exact ⟨fun q hq => h.fine q (by simp [hq]), fun q hq => h.ok q (by simp [hq]), fun q hq => h.new q (by simp [hq]), hd.2, h.aw⟩
theorem Lot.head {B w : World} {l : List Ob} {o : Ob} (h : Lot B w (o :: l)) : o.ok w := h.ok o (by simp)
/-- A variable of two pointers. -/
def obA (g : Nat) (t : TypeId) (p q : Value) : Ob := ⟨[g], fun w => w.heap[g]? = some (.cells #[p, q] t (0, 0))⟩
theorem fineA (g : Nat) (t : TypeId) (p q : Value) : (obA g t p q).Fine := ⟨fun h hw hd => hw.keep (hd g (by simp [obA])) h, fun h x hx => by simp [obA] at hx; subst hx; exact lt_of_block h⟩
/-- The program's source. -/
def obP (r : Rc) : Ob := ⟨r.ft, r.ok⟩
theorem fineP (r : Rc) : (obP r).Fine := ⟨fun h hw hd => Rc.ok.away h hw hd, fun h => Rc.ok.lt h⟩
/-- The document's. -/
def obR (g : Nat) (v : Value) (sp li : Int) (G : List Int) : Ob := ⟨fp g v, fun w => Rf w g v sp li G⟩
theorem fineR (g : Nat) (v : Value) (sp li : Int) (G : List Int) : (obR g v sp li G).Fine :=
  ⟨fun h hw hd => Rf.away h hw (hd _ (fp_self _ _)) (fun k hk => hd k (fp_own hk)), fun h x hx => by
    simp only [obR, fp, List.mem_cons, Option.mem_toList] at hx
    rcases hx with rfl | hx
    · exact lt_of_block h.blk
    · exact h.lst.lt x hx⟩
theorem Lot.askP {B w w' : World} {l : List Ob} {r : Rc} {G : List Int} (h : Lot B w (obP r :: l)) (ha : Asked w w' r.g r.c r.v r.sp r.li G) : ∃ v', Lot B w' (obP ⟨r.g, r.c, v', r.sp, r.li, G⟩ :: l) := by
  obtain ⟨v', h1, h2, h3⟩ := ha
  refine ⟨v', h.turn (fineP _) h1 h3 (fun x hx => ?_) (fun x hx => ?_)⟩
  · simp only [fp, obP, Rc.ft, List.mem_cons, Option.mem_toList] at hx ⊢
    rcases hx with rfl | hx
    · simp
    · exact .inr (.inr hx)
  · simp only [obP, Rc.ft, List.mem_cons, Option.mem_toList] at hx ⊢
    rcases hx with rfl | rfl | hx
    · simp
    · simp
    · rcases h2 x hx with h' | h'
      · exact .inl (.inr (.inr h'))
      · exact .inr h'
theorem Lot.askR {B w w' : World} {l : List Ob} {g : Nat} {v : Value} {sp li : Int} {G G' : List Int} (h : Lot B w (obR g v sp li G :: l)) (ha : RAsked w w' g v sp li G') : ∃ v', Lot B w' (obR g v' sp li G' :: l) := by
  obtain ⟨v', h1, h2, h3⟩ := ha
  refine ⟨v', h.turn (fineR _ _ _ _ _) h1 h3 (fun x hx => hx) (fun x hx => ?_)⟩
  simp only [obR, fp, List.mem_cons, Option.mem_toList] at hx ⊢
  rcases hx with rfl | hx
  · simp
  · rcases h2 x hx with h' | h'
    · exact .inl (.inr h')
    · exact .inr h'

/-! Scripts that came in. -/
structure Op4 where
  k : Int
  t : Int
  a : Int
  b : Int
def RowC (w : World) (a : Option Addr) (l : List Op4) : Prop := (∀ x ∈ l, I64 x.k ∧ I64 x.t ∧ I64 x.a ∧ I64 x.b) ∧ (l = [] ∨ ∃ b off, a = some ⟨b, off, none⟩ ∧ ∀ i x, l[i]? = some x →
  w.cell? ⟨b, off + i * 4, none⟩ = some (.int .i64 x.k) ∧ w.cell? ⟨b, off + i * 4 + 1, none⟩ = some (.int .i64 x.t) ∧ w.cell? ⟨b, off + i * 4 + 2, none⟩ = some (.int .i64 x.a) ∧ w.cell? ⟨b, off + i * 4 + 3, none⟩ = some (.int .i64 x.b))
theorem RowC.on {w w' : World} {a : Option Addr} {l : List Op4} (h : RowC w a l) (hw : Away [] w w') : RowC w' a l := by
  refine ⟨h.1, ?_⟩
  rcases h.2 with h1 | ⟨b, off, rfl, h1⟩
  · exact .inl h1
  · exact .inr ⟨b, off, rfl, fun i x hx => ⟨hw.cell (by simp) (h1 i x hx).1, hw.cell (by simp) (h1 i x hx).2.1, hw.cell (by simp) (h1 i x hx).2.2.1, hw.cell (by simp) (h1 i x hx).2.2.2⟩⟩
theorem four_of {α : Type} {l : List α} (h : l.length = 4) : ∃ a b c d, l = [a, b, c, d] := by
  match l, h with
  | [a, b, c, d], _ => exact ⟨a, b, c, d, rfl⟩
theorem cells48 : Try.prog.cellsOf 48 = 4 := by kernel_rfl
theorem cells3 : Try.prog.cellsOf 3 = 1 := by kernel_rfl
theorem open_op {H : Type} {enc : TypeId × Value → H} {w : World} {fuel : Nat} {c0 c1 c2 c3 : Value} {D : DataW H} {Pl : List MemPlace}
    (h : DataW.trod enc Try.prog w 0 (fun _ => true) true fuel 48 [c0, c1, c2, c3] = some (D, Pl)) :
    ∃ x : Op4, (I64 x.k ∧ I64 x.t ∧ I64 x.a ∧ I64 x.b) ∧ c0 = .int .i64 x.k ∧ c1 = .int .i64 x.t ∧ c2 = .int .i64 x.a ∧ c3 = .int .i64 x.b ∧ 1 ≤ Rows.uptoBulk D := by
  obtain ⟨xs, n, rfl, hx, hl, hxs, hf⟩ := DataW.trod_struct Try.underlying48 h
  obtain ⟨y0, y1, y2, y3, rfl⟩ := four_of (by simpa using hxs)
  have k1 := cells3
  have k2 := cells2
  have h0 : DataW.trod enc Try.prog w 0 (fun _ => true) true n 3 (([c0, c1, c2, c3].drop 0).take (Try.prog.cellsOf 3)) = some y0 := hf 0 _ rfl
  rw [k1] at h0
  have h0 : DataW.trod enc Try.prog w 0 (fun _ => true) true n 3 [c0] = some y0 := h0
  have h1 : DataW.trod enc Try.prog w 0 (fun _ => true) true n 3 (([c0, c1, c2, c3].drop 1).take (Try.prog.cellsOf 3)) = some y1 := hf 1 _ rfl
  rw [k1] at h1
  have h1 : DataW.trod enc Try.prog w 0 (fun _ => true) true n 3 [c1] = some y1 := h1
  have h2 : DataW.trod enc Try.prog w 0 (fun _ => true) true n 2 (([c0, c1, c2, c3].drop 2).take (Try.prog.cellsOf 2)) = some y2 := hf 2 _ rfl
  rw [k2] at h2
  have h2 : DataW.trod enc Try.prog w 0 (fun _ => true) true n 2 [c2] = some y2 := h2
  have h3 : DataW.trod enc Try.prog w 0 (fun _ => true) true n 2 (([c0, c1, c2, c3].drop 3).take (Try.prog.cellsOf 2)) = some y3 := hf 3 _ rfl
  rw [k2] at h3
  have h3 : DataW.trod enc Try.prog w 0 (fun _ => true) true n 2 [c3] = some y3 := h3
  obtain ⟨m0, e0, rfl, w0⟩ := DataW.trod_int Try.underlying3 h0
  obtain ⟨m1, e1, rfl, w1⟩ := DataW.trod_int Try.underlying3 h1
  obtain ⟨m2, e2, rfl, w2⟩ := DataW.trod_int Try.underlying2 h2
  obtain ⟨m3, e3, rfl, w3⟩ := DataW.trod_int Try.underlying2 h3
  simp only [List.cons.injEq, and_true] at e0 e1 e2 e3
  subst e0; subst e1; subst e2; subst e3
  simp only [Prod.mk.injEq, List.map_cons, List.map_nil] at hx
  obtain ⟨rfl, _⟩ := hx
  exact ⟨⟨m0, m1, m2, m3⟩, ⟨bounds_i64 w0, bounds_i64 w1, bounds_i64 w2, bounds_i64 w3⟩, rfl, rfl, rfl, rfl, by simp [Rows.uptoBulk]⟩
theorem open_script {H : Type} {enc : TypeId × Value → H} {w : World} {a : Option Addr} {len cap : Nat} {d : DataW H} {p : List MemPlace}
    (h : DataW.Trod enc Try.prog w 0 (fun _ => true) true 43 (.slice a len cap) d p) (hw : ∀ n ∈ d.weights Try.prog 43, n ≤ reachBytes) (hlt : ∀ x ∈ p, x.block < w.heap.size) :
    ∃ l : List Op4, l.length = len ∧ RowC w a l ∧ l.length ≤ Rows.uptoBulk d ∧ l.length ≤ 4398046510976 := by
  obtain ⟨fuel, hf⟩ := h
  have h : DataW.trod enc Try.prog w 0 (fun _ => true) true fuel 43 [.slice a len cap] = some (d, p) := by simpa [Value.cells] using hf
  rcases open_slice Try.underlying43 h with ⟨hcs, hx⟩ | ⟨x, l, c, m, n, D, Pl, hcs, hb, hl, hm, hmm, hx, hel⟩
  · simp only [List.cons.injEq, Value.slice.injEq, and_true] at hcs
    obtain ⟨rfl, rfl, rfl⟩ := hcs
    exact ⟨[], rfl, ⟨by simp, .inl rfl⟩, by simp, by simp⟩
  · simp only [List.cons.injEq, Value.slice.injEq, and_true] at hcs
    obtain ⟨rfl, rfl, rfl⟩ := hcs
    simp only [Prod.mk.injEq] at hx
    obtain ⟨rfl, hpl⟩ := hx
    simp only [if_true] at hmm
    subst hmm
    rw [cells48] at hel
    have hreach : m * 32 ≤ 140737488351232 := by
      have := hw ((((List.range len).map D).length + ((List.range (m - len)).map fun j => D (len + j)).length) * Try.prog.bytesOf 48) (by simp [DataW.weights, Try.underlying43])
      rw [show Try.prog.bytesOf 48 = 32 from by kernel_rfl] at this
      simp only [List.length_map, List.length_range, reachBytes] at this
      omega
    obtain ⟨b, off, spot⟩ := x
    by_cases h0 : len = 0
    · subst h0
      exact ⟨[], rfl, ⟨by simp, .inl rfl⟩, by simp, by simp⟩
    have hspot : spot = none := by
      obtain ⟨cs', h1, _⟩ := hel 0 (by omega)
      obtain ⟨_, hlen', hc⟩ := World.cells?_some h1
      have := hc 0 (by decide)
      rw [List.getElem?_eq_getElem (by omega)] at this
      simpa [Addr.add] using World.cell?_spot this
    subst hspot
    have hall : ∀ i, i < len → ∃ x : Op4, (I64 x.k ∧ I64 x.t ∧ I64 x.a ∧ I64 x.b) ∧ (w.cell? ⟨b, off + i * 4, none⟩ = some (.int .i64 x.k) ∧ w.cell? ⟨b, off + i * 4 + 1, none⟩ = some (.int .i64 x.t) ∧ w.cell? ⟨b, off + i * 4 + 2, none⟩ = some (.int .i64 x.a) ∧ w.cell? ⟨b, off + i * 4 + 3, none⟩ = some (.int .i64 x.b)) ∧ 1 ≤ Rows.uptoBulk (D i) := by
      intro i hi
      obtain ⟨cs', h1, h2⟩ := hel i (by omega)
      rw [add_plain] at h1
      obtain ⟨_, hlen, hcell⟩ := World.cells?_some h1
      obtain ⟨c0, c1, c2, c3, rfl⟩ := four_of hlen
      have q0 := hcell 0 (by decide)
      have q1 := hcell 1 (by decide)
      have q2 := hcell 2 (by decide)
      have q3 := hcell 3 (by decide)
      simp only [add_plain, List.getElem?_cons_zero, List.getElem?_cons_succ, Nat.add_zero] at q0 q1 q2 q3
      obtain ⟨x, hx, rfl, rfl, rfl, rfl, hb⟩ := open_op h2
      exact ⟨x, hx, ⟨q0, q1, q2, q3⟩, hb⟩
    have hinh : Inhabited Op4 := ⟨⟨0, 0, 0, 0⟩⟩
    obtain ⟨F, hF⟩ := choose_lt (α := Op4) hall
    refine ⟨(List.range len).map F, by simp, ⟨?_, .inr ⟨b, off, rfl, ?_⟩⟩, ?_, by simp; omega⟩
    · intro o ho
      obtain ⟨i, hi, rfl⟩ := List.mem_map.mp ho
      exact (hF i (by simpa using hi)).1
    · intro i o ho
      have hi : i < len := by
        rcases Nat.lt_or_ge i len with h | h
        · exact h
        · rw [List.getElem?_eq_none (by simpa using h)] at ho; simp at ho
      simp [hi] at ho
      subst ho
      exact (hF i hi).2.1
    · have := bulkAll_ge (fun i => 1) D (List.range len) (fun i hi => (hF i (by simpa using hi)).2.2)
      rw [sum_ones] at this
      simp only [List.length_range] at this
      simp only [Rows.uptoBulk, List.length_map, List.length_range]
      omega
#print axioms open_script
end Go.Proofs.Ytepbgigoekpdeaa
