/-
  Several sources side by side.
-/
import Derived.Test.YtepbgigoekpdeaaRkit
namespace Go.Proofs.Ytepbgigoekpdeaa
open Go.ChangeShapes Go.WideShapes Go.ChangeAt Go.RowKit
set_option linter.unusedVariables false

structure Rc where
  g : Nat
  c : Nat
  v : Value
  sp : Int
  li : Int
  G : List Int
def Rc.ft (r : Rc) : List Nat := r.g :: r.c :: r.v.ownBlock.toList
def Rc.ok (r : Rc) (w : World) : Prop := Sc w r.g r.c r.v r.sp r.li r.G
theorem Rc.ok.away {r : Rc} {S : List Nat} {w w' : World} (h : r.ok w) (hw : Away S w w') (hd : ∀ x ∈ r.ft, x ∉ S) : r.ok w' := by
  obtain ⟨bs, h⟩ := h
  exact ⟨bs, h.away hw (hd _ (by simp [Rc.ft])) (hd _ (by simp [Rc.ft])) (fun k hk => hd _ (by simp [Rc.ft, hk]))⟩
theorem Rc.ok.lt {r : Rc} {w : World} (h : r.ok w) : ∀ x ∈ r.ft, x < w.heap.size := by
  obtain ⟨bs, h⟩ := h
  intro x hx
  simp only [Rc.ft, List.mem_cons, Option.mem_toList] at hx
  rcases hx with rfl | rfl | hx
  · exact lt_of_block h.cs.blk
  · exact lt_of_block h.cs.box
  · exact h.lst.lt x hx
def Dis (r s : Rc) : Prop := ∀ x ∈ r.ft, x ∉ s.ft
/-- They lie apart from one another and above B. -/
structure All (B w : World) (l : List Rc) : Prop where
  ok : ∀ r ∈ l, r.ok w
  new : ∀ r ∈ l, ∀ x ∈ r.ft, B.heap.size ≤ x
  dis : l.Pairwise Dis
  aw : Away [] B w
theorem All.on {B w w' : World} {l : List Rc} (h : All B w l) (hw : Away [] w w') : All B w' l :=
  ⟨fun r hr => (h.ok r hr).away hw (by simp), h.new, h.dis, h.aw.trans hw⟩
theorem All.nil (B w : World) (h : Away [] B w) : All B w [] := ⟨by simp, by simp, .nil, h⟩
theorem All.ask {B w w' : World} {l m : List Rc} {r : Rc} {G : List Int} (h : All B w (l ++ r :: m)) (ha : Asked w w' r.g r.c r.v r.sp r.li G) :
    ∃ v', All B w' (l ++ ⟨r.g, r.c, v', r.sp, r.li, G⟩ :: m) := by
  obtain ⟨v', h1, h2, h3⟩ := ha
  have hz := h.aw.size
  have hd := h.dis
  rw [List.pairwise_append, List.pairwise_cons] at hd
  obtain ⟨d1, ⟨d2, d3⟩, d4⟩ := hd
  have sub : ∀ x ∈ (⟨r.g, r.c, v', r.sp, r.li, G⟩ : Rc).ft, x ∈ r.ft ∨ w.heap.size ≤ x := by
    intro x hx
    simp only [Rc.ft, List.mem_cons, Option.mem_toList] at hx ⊢
    rcases hx with rfl | rfl | hx
    · simp
    · simp
    · rcases h2 x hx with h | h
      · exact .inl (.inr (.inr h))
      · exact .inr h
  have fsub : ∀ x ∈ fp r.g r.v, x ∈ r.ft := by
    intro x hx
    simp only [fp, Rc.ft, List.mem_cons, Option.mem_toList] at hx ⊢
    rcases hx with rfl | hx
    · simp
    · exact .inr (.inr hx)
  refine ⟨v', ⟨?_, ?_, ?_, h.aw.next h3 (fun x hx => .inr (h.new r (by simp) x (fsub x hx)))⟩⟩
  · intro s hs
    rcases List.mem_append.1 hs with hs | hs
    · exact (h.ok s (by simp [hs])).away h3 (fun x hx hf => d4 s hs r (by simp) x hx (fsub x hf))
    · rcases List.mem_cons.1 hs with rfl | hs
      · exact h1
      · exact (h.ok s (by simp [hs])).away h3 (fun x hx hf => d2 s hs x (fsub x hf) hx)
  · intro s hs x hx
    rcases List.mem_append.1 hs with hs | hs
    · exact h.new s (by simp [hs]) x hx
    · rcases List.mem_cons.1 hs with rfl | hs
      · rcases sub x hx with h' | h'
        · exact h.new r (by simp) x h'
        · omega
      · exact h.new s (by simp [hs]) x hx
  · rw [List.pairwise_append, List.pairwise_cons]
    refine ⟨d1, ⟨?_, d3⟩, ?_⟩
    · intro s hs x hx hxs
      rcases sub x hx with h' | h'
      · exact d2 s hs x h' hxs
      · have := (h.ok s (by simp [hs])).lt x hxs; omega
    · intro s hs t ht x hx hxt
      rcases List.mem_cons.1 ht with rfl | ht
      · rcases sub x hxt with h' | h'
        · exact d4 s hs r (by simp) x hx h'
        · have := (h.ok s (by simp [hs])).lt x hx; omega
      · exact d4 s hs t (by simp [ht]) x hx hxt
theorem All.add {B w w' : World} {l : List Rc} {g c : Nat} {sp li : Int} (h : All B w l) (hf : Fresh w w' g c sp li) : All B w' (l ++ [⟨g, c, .slice none 0 0, sp, li, []⟩]) := by
  obtain ⟨h1, h2, h3, h4⟩ := hf
  have hz := h.aw.size
  have sub : ∀ x ∈ (⟨g, c, .slice none 0 0, sp, li, []⟩ : Rc).ft, w.heap.size ≤ x := by
    intro x hx
    simp [Rc.ft, Value.ownBlock] at hx
    rcases hx with rfl | rfl <;> assumption
  refine ⟨?_, ?_, ?_, h.aw.trans h4⟩
  · intro s hs
    rcases List.mem_append.1 hs with hs | hs
    · exact (h.ok s hs).away h4 (by simp)
    · simp at hs; subst hs; exact h1
  · intro s hs x hx
    rcases List.mem_append.1 hs with hs | hs
    · exact h.new s hs x hx
    · simp at hs; subst hs; have := sub x hx; omega
  · rw [List.pairwise_append]
    refine ⟨h.dis, by simp, ?_⟩
    intro s hs t ht x hx hxt
    simp at ht
    subst ht
    have := sub x hxt
    have := (h.ok s hs).lt x hx
    omega
theorem nextN_u32 {sp li : Int} {G : List Int} (h1 : 1 ≤ sp) (h2 : sp ≤ 4294967296) (now : Int) : 0 ≤ nextN sp li G now ∧ nextN sp li G now ≤ 4294967295 := by
  unfold nextN
  split
  · split
    · omega
    · have := Int.emod_nonneg (G.length : Int) (show sp ≠ 0 by omega)
      have := Int.emod_lt_of_pos (G.length : Int) (show 0 < sp by omega)
      omega
  · omega
#print axioms All.ask
end Go.Proofs.Ytepbgigoekpdeaa
