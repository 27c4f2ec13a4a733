/-
  For the laws over lists of numbers.
-/
import Derived.Test.YtaicckenpplceaaDoorKit
import Derived.Test.YtaicckenpplceaaDoorDe
import Derived.Test.YtaicckenpplceaaDoorRtP
import Derived.Test.YtaicckenpplceaaDoorRf
namespace Go.Proofs.YtaicckenpplceaaDoor
open Go.ChangeShapes Go.WideShapes Go.ChangeAt Go.RowKit Go.Deep Num
set_option linter.unusedVariables false
set_option maxHeartbeats 8000000
set_option maxRecDepth 100000

namespace R
theorem open_nums {H : Type} {enc : TypeId × Value → H} {w : World} {a : Option Addr} {len cap : Nat} {d : DataW H} {p : List MemPlace}
    (h : DataW.Trod enc Tryd.prog w 0 (fun _ => true) true 29 (.slice a len cap) d p) (hw : ∀ n ∈ d.weights Tryd.prog 29, n ≤ reachBytes) : Ints w a len ∧ len ≤ 140737488355328 := by
  obtain ⟨fuel, hf⟩ := h
  have k4 : Tryd.prog.cellsOf 3 = 1 := by kernel_rfl
  rcases open_ints Tryd.underlying29 Tryd.underlying3 k4 (by simpa [Value.cells] using hf) with ⟨hcs, hx⟩ | ⟨x, l, c', zs, hcs, _, hll, hm, hz, hx, hcz, hwz⟩
  · have hcs := (List.cons.inj hcs).1
    simp only [Value.slice.injEq] at hcs
    obtain ⟨rfl, rfl, rfl⟩ := hcs
    exact ⟨fun i hi => by omega, by omega⟩
  · have hcs := (List.cons.inj hcs).1
    have hD : d = _ := congrArg Prod.fst hx
    subst hD
    simp only [Value.slice.injEq] at hcs
    obtain ⟨rfl, rfl, rfl⟩ := hcs
    rw [if_pos rfl] at hz
    have hreach : 8 * ((zs.take len).length + (zs.drop len).length) ≤ 140737488351232 := by
      have := hw (((zs.take len).length + (zs.drop len).length) * 8) (by
        simp only [DataW.weights, Tryd.underlying29]
        simp [lits, show Tryd.prog.bytesOf 3 = 8 from by kernel_rfl])
      simp only [reachBytes] at this
      omega
    simp only [List.length_take, List.length_drop] at hreach
    refine ⟨fun i hi => ?_, by omega⟩
    obtain ⟨b, off, spot⟩ := x
    have hspot : spot = none := by simpa [Addr.add] using World.cell?_spot (hcz 0 (by omega))
    subst hspot
    have h1 := hcz i (by omega)
    rw [add_plain] at h1
    refine ⟨b, off, zs.getD i 0, rfl, h1, bounds_i64 (hwz _ ?_)⟩
    rw [List.getD_eq_getElem?_getD, List.getElem?_eq_getElem (by omega)]
    exact List.getElem_mem _
theorem wrapI (n : Int) : i64ok (IntKind.i64.wrap n) := by rw [IntKind.wrap_i64]; unfold i64ok; omega
/-- Two lists of packets of their own, one behind the other. -/
theorem cuts_app {w w' : World} {B C : Nat} {v v' u : Value} {xs ys : List X} (h : Cuts w B v xs) (k : Cuts w C u ys) (hBC : B ≤ C) (hold : ∀ x ∈ xs, ∀ q, x.o.ownBlock = some q ∨ x.d.ownBlock = some q → q < C) (hv : ∀ q, v.ownBlock = some q → q < C) (hl : LstP w' v' (xs ++ ys)) (hgr : w.grownBy w' v.ownBlock) (hmv : Moved w v v') (hB : B ≤ w.heap.size) : Cuts w' B v' (xs ++ ys) := by
  have hA : ∀ S : List Nat, (∀ k, v.ownBlock = some k → k ∈ S) → Away S w w' := fun S hS => (Away.refl S w).grown hgr (fun k hk => .inl (hS k hk))
  have keep : ∀ y : X, (∀ k, y.o.ownBlock = some k ∨ y.d.ownBlock = some k → v.ownBlock ≠ some k) → Mine w B y.p y.o y.d → Mine w' B y.p y.o y.d := fun y hy hm => by
    cases hb : v.ownBlock with
    | none => exact hm.on (hA [] (fun k hk => by rw [hb] at hk; simp at hk))
    | some g => exact hm.away (hA [g] (fun k hk => by rw [hb] at hk; simp at hk; simp [hk])) (fun k hk e => by simp at e; subst e; exact hy k hk hb)
  have hky : ∀ y ∈ ys, ∀ q, y.o.ownBlock = some q ∨ y.d.ownBlock = some q → C ≤ q ∧ q < w.heap.size := fun y hy q hq => ⟨((k.each y hy).2.lto q hq).2, ((k.each y hy).2.lto q hq).1⟩
  have hvy : ∀ y ∈ ys, ∀ q, y.o.ownBlock = some q ∨ y.d.ownBlock = some q → v.ownBlock ≠ some q := fun y hy q hq e => by have := (hky y hy q hq).1; have := hv q e; omega
  refine ⟨hl, h.new.moved hmv hB, fun y hy => ?_, fun y hy q hq e => ?_, List.pairwise_append.2 ⟨h.apart, k.apart, fun y hy z hz q hq => ?_⟩⟩
  · rcases List.mem_append.1 hy with hy | hy
    · exact ⟨(h.each y hy).1, keep y (h.far y hy) (h.each y hy).2⟩
    · exact ⟨(k.each y hy).1, keep y (hvy y hy) ((k.each y hy).2.mono hBC)⟩
  · rcases hmv q e with e | e
    · rcases List.mem_append.1 hy with hy | hy
      · exact h.far y hy q hq e
      · exact hvy y hy q hq e
    · have : q < w.heap.size := by
        rcases List.mem_append.1 hy with hy | hy
        · exact ((h.each y hy).2.lto q hq).1
        · exact (hky y hy q hq).2
      omega
  · have h1 := hold y hy q hq
    exact ⟨fun e => by have := (hky z hz q (.inl e)).1; omega, fun e => by have := (hky z hz q (.inr e)).1; omega⟩
theorem mtu_of (n : Int) : mtuP (68 + n % (1500 + 1)) 4 = true := by rw [mtu_iff]; simp; omega
theorem ref_len {x : Pk} {l : List Pk} (h : Ref x l) : l.length ≤ x.d.length + 1 := by
  have key : ∀ (l : List Pk) (b : Bool), moresB b l → (∀ q ∈ l, rgtP q = true) → l.length ≤ (datas l).length + 1 := by
    intro l
    induction l with
    | nil => intro b h; exact h.elim
    | cons q r ih =>
      intro b hm hr
      cases r with
      | nil => simp
      | cons a c =>
        have h1 := ih b hm.2 (fun z hz => hr z (by simp [hz]))
        have h2 := more_pos (hr q (by simp)) hm.1
        have e : datas (q :: a :: c) = q.d ++ datas (a :: c) := rfl
        rw [e, List.length_append]
        simp only [List.length_cons] at h1 ⊢
        omega
  rw [← h.da]
  exact key l _ h.mo (fun q hq => (h.kin q hq).r)
end R
end Go.Proofs.YtaicckenpplceaaDoor
