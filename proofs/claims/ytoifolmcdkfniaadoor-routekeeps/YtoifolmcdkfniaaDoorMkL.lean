/-
  For marked: lists that are lengthened.
-/
import Derived.Test.YtoifolmcdkfniaaDoorMkX
namespace Go.Proofs.YtoifolmcdkfniaaDoor
open Go.ChangeShapes Go.WideShapes Go.ChangeAt Go.RowKit
set_option linter.unusedVariables false
set_option linter.unusedSimpArgs false

/-- A list told; what it holds now. -/
structure Held where
  v : Value
  l : List Rt
/-- Lists of slices in old memory (below B), what each of them holds, in blocks of their own. -/
structure Old (B : Nat) (w : World) (kv : Value) (T : List Held) : Prop where
  kl : LstV w kv (T.map Held.v)
  own : ∀ t ∈ T, LR w t.v t.l
  apart : ∀ (i j : Nat) (s t : Held), T[i]? = some s → T[j]? = some t → i ≠ j → ∀ z, s.v.ownBlock = some z → t.v.ownBlock ≠ some z
  outer : ∀ t ∈ T, ∀ z, t.v.ownBlock = some z → kv.ownBlock ≠ some z
  old : (∀ t ∈ T, ∀ z, t.v.ownBlock = some z → z < B) ∧ ∀ z, kv.ownBlock = some z → z < B
/-- The lengthened ones so far: each in its old block, or in a new one. -/
structure Lng (B : Nat) (w : World) (T : List Held) (uv : Value) (Y : List Held) : Prop where
  ul : LstV w uv (Y.map Held.v)
  own : ∀ y ∈ Y, LR w y.v y.l
  at_ : ∀ (j : Nat) (y : Held), Y[j]? = some y → ∀ z, y.v.ownBlock = some z → (∃ t, T[j]? = some t ∧ t.v.ownBlock = some z) ∨ B ≤ z
  new : New B uv
  ne : ∀ y ∈ Y, ∀ z, y.v.ownBlock = some z → uv.ownBlock ≠ some z
/-- One that is being lengthened: the i-th. -/
structure Now (B : Nat) (w : World) (T : List Held) (uv : Value) (Y : List Held) (t : Held) (x : Value) (m : List Rt) : Prop where
  lx : LR w x m
  pre : t.l = m.take t.l.length
  px : x = t.v ∨ (∃ g c, t.v = .slice (some ⟨g, 0, none⟩) t.l.length c ∧ x = .slice (some ⟨g, 0, none⟩) m.length c) ∨ (∀ z, x.ownBlock = some z → B ≤ z ∧ uv.ownBlock ≠ some z ∧ ∀ y ∈ Y, y.v.ownBlock ≠ some z)
theorem Old.on {B : Nat} {w w' : World} {kv : Value} {T : List Held} (h : Old B w kv T) (hw : Away [] w w') : Old B w' kv T := ⟨h.kl.on hw, fun t ht => (h.own t ht).on hw, h.apart, h.outer, h.old⟩
theorem Lng.on {B : Nat} {w w' : World} {T Y : List Held} {uv : Value} (h : Lng B w T uv Y) (hw : Away [] w w') : Lng B w' T uv Y := ⟨h.ul.on hw, fun y hy => (h.own y hy).on hw, h.at_, h.new, h.ne⟩
theorem Now.on {B : Nat} {w w' : World} {T Y : List Held} {uv x : Value} {t : Held} {m : List Rt} (h : Now B w T uv Y t x m) (hw : Away [] w w') : Now B w' T uv Y t x m := ⟨h.lx.on hw, h.pre, h.px⟩
/-- Where the one at hand lies. -/
theorem Now.where_ {B : Nat} {w : World} {T Y : List Held} {uv x : Value} {t : Held} {m : List Rt} (h : Now B w T uv Y t x m) : ∀ z, x.ownBlock = some z → t.v.ownBlock = some z ∨ (B ≤ z ∧ uv.ownBlock ≠ some z ∧ ∀ y ∈ Y, y.v.ownBlock ≠ some z) := fun z hz => by
  rcases h.px with rfl | ⟨g, c, h1, h2⟩ | h1
  · exact .inl hz
  · left; rw [h2] at hz; rw [h1]; exact hz
  · exact .inr (h1 z hz)
theorem Now.step {B : Nat} {w w' : World} {kv uv x v' : Value} {T Y : List Held} {t : Held} {i : Nat} {m : List Rt} {s : Rt} (hB : B ≤ w.heap.size) (ho : Old B w kv T) (hl : Lng B w T uv Y) (h : Now B w T uv Y t x m) (ht : T[i]? = some t) (hY : Y.length = i)
    (hm : OneMore w x m s v' w') : Old B w' kv T ∧ Lng B w' T uv Y ∧ Now B w' T uv Y t v' (m ++ [s]) ∧ Away (x.ownBlock.toList) w w' := by
  have htm := List.mem_of_getElem? ht
  have hle : t.l.length ≤ m.length := by
    have := congrArg List.length h.pre
    rw [List.length_take] at this
    omega
  have hpre : t.l = (m ++ [s]).take t.l.length := by rw [List.take_append_of_le_length hle]; exact h.pre
  rcases hm.2 with ⟨g, cap, hx, hv', ha⟩ | ⟨hn, ha⟩
  · have hxg : x.ownBlock = some g := by rw [hx]; rfl
    have haw : Away x.ownBlock.toList w w' := by rw [hxg]; exact ha
    have hw := h.where_ g hxg
    have hkg : ∀ z, kv.ownBlock = some z → z ∉ [g] := fun z hz hc => by
      simp at hc; subst hc
      rcases hw with h1 | h1
      · exact ho.outer t htm z h1 hz
      · have := ho.old.2 z hz; omega
    have hug : ∀ z, uv.ownBlock = some z → z ∉ [g] := fun z hz hc => by
      simp at hc; subst hc
      rcases hw with h1 | h1
      · have := ho.old.1 t htm z h1; have := hl.new z hz; omega
      · exact h1.2.1 hz
    have hyg : ∀ y ∈ Y, ∀ z, y.v.ownBlock = some z → z ∉ [g] := fun y hy z hz hc => by
      simp at hc; subst hc
      obtain ⟨j, hj⟩ := List.getElem?_of_mem hy
      have hjl : j < Y.length := (List.getElem?_eq_some_iff.1 hj).1
      rcases hw with h1 | h1
      · rcases hl.at_ j y hj z hz with ⟨t', ht', h2⟩ | h2
        · exact ho.apart j i t' t ht' ht (by omega) z h2 h1
        · have := ho.old.1 t htm z h1; omega
      · exact h1.2.2 y hy hz
    refine ⟨⟨ho.kl.away ha hkg, fun t' ht' => ?_, ho.apart, ho.outer, ho.old⟩, ⟨hl.ul.away ha hug, fun y hy => (hl.own y hy).away ha (hyg y hy), hl.at_, hl.new, hl.ne⟩, ⟨hm.1, hpre, ?_⟩, haw⟩
    · by_cases hg : t'.v.ownBlock = some g
      · obtain ⟨j, hj⟩ := List.getElem?_of_mem ht'
        have hji : j = i := by
          rcases Nat.decEq j i with h1 | h1
          · exfalso
            rcases hw with h2 | h2
            · exact ho.apart j i t' t hj ht h1 g hg h2
            · have := ho.old.1 t' ht' g hg; omega
          · exact h1
        subst hji
        rw [ht] at hj
        simp only [Option.some.injEq] at hj
        subst hj
        have h1 := ho.own t htm
        obtain ⟨c', he⟩ : ∃ c', t.v = .slice (some ⟨g, 0, none⟩) t.l.length c' := by
          rcases h1.1.2 with ⟨h3, _⟩ | ⟨g', c', cur, h3, _⟩
          · rw [h3] at hg; simp [Value.ownBlock] at hg
          · rw [h3] at hg; simp [Value.ownBlock] at hg; subst hg; exact ⟨c', h3⟩
        have hcap : c' = cap := by
          rcases h.px with h2 | ⟨g2, c2, h2, h3⟩ | h2
          · rw [h2, he] at hx; simp only [Value.slice.injEq] at hx; exact hx.2.2
          · rw [he] at h2; rw [hx] at h3
            simp only [Value.slice.injEq] at h2 h3
            rw [h2.2.2, h3.2.2]
          · have := (h2 g hxg).1; have := ho.old.1 t htm g hg; omega
        subst hcap
        rw [he] at h1 ⊢
        have h5 := hm.1
        rw [hv'] at h5
        have h6 := h5.head (k := t.l.length) (by omega)
        rw [← hpre] at h6
        exact h6
      · exact (ho.own t' ht').away ha (fun z hz hc => by simp at hc; subst hc; exact hg hz)
    · rcases h.px with h2 | ⟨g2, c2, h2, h3⟩ | h2
      · right; left
        refine ⟨g, cap, ?_, by rw [hv', List.length_append]; rfl⟩
        rw [← h2, hx]
        have h4 := (ho.own t htm)
        rw [← h2, hx] at h4
        obtain ⟨_, _, _, _, _, h7⟩ := h4.1.blk
        rw [h7]
      · right; left
        rw [hx] at h3
        simp only [Value.slice.injEq, Option.some.injEq, Addr.mk.injEq] at h3
        obtain ⟨⟨rfl, -, -⟩, -, rfl⟩ := h3
        exact ⟨_, _, h2, by rw [hv', List.length_append]; rfl⟩
      · right; right
        intro z hz
        rw [hv'] at hz
        exact h2 z (by rw [hx]; exact hz)
  · refine ⟨ho.on ha, hl.on ha, ⟨hm.1, hpre, .inr (.inr (fun z hz => ?_))⟩, ha.mono (by simp)⟩
    have h1 := hn z hz
    refine ⟨by omega, fun hc => by have := hl.ul.lt z hc; omega, fun y hy hc => by have := (hl.own y hy).lt z hc; omega⟩
end Go.Proofs.YtoifolmcdkfniaaDoor
