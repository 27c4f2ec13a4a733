/-
  Routes as plain data: which may be, their order, which one leads to a destination.
-/
import Derived.Test.YtoifolmcdkfniabGreatDoorOrd
namespace Go.Proofs.YtoifolmcdkfniabGreatDoor
open Go.ChangeShapes Go.WideShapes Go.ChangeAt Go.RowKit
set_option linter.unusedVariables false
set_option linter.unusedSimpArgs false
set_option maxRecDepth 100000

/-- A route: the net's version and bytes, how many bits, the link. -/
structure Rt where
  v : Int
  l : List Int
  b : Int
  k : Int
def Byt (l : List Int) : Prop := ∀ y ∈ l, 0 ≤ y ∧ y ≤ 255
def Okr (x : Rt) : Prop := x.l.length = 16 ∧ Byt x.l
def mayR (x : Rt) : Bool := maskOk x.v x.l x.b && (eqL (maskL x.b 0 x.l) x.l && (decide (0 ≤ x.k) && decide (x.k < 16)))
def lessR (x y : Rt) : Bool := lessP x.v x.l y.v y.l
def ahead (x y : Rt) : Bool := lessR x y || (!lessR y x && decide (x.b < y.b))
def twin (x y : Rt) : Bool := decide (x.v = y.v) && (eqL x.l y.l && decide (x.b = y.b))
def hitR (v : Int) (l : List Int) (x : Rt) : Bool := withinP v l x.v x.l x.b
theorem mayR_iff {x : Rt} : mayR x = true ↔ maskOk x.v x.l x.b = true ∧ maskL x.b 0 x.l = x.l ∧ 0 ≤ x.k ∧ x.k < 16 := by
  unfold mayR eqL; simp
theorem twin_iff {x y : Rt} : twin x y = true ↔ x.v = y.v ∧ x.l = y.l ∧ x.b = y.b := by
  unfold twin eqL; simp
theorem twin_sym (x y : Rt) : twin x y = twin y x := by
  rw [Bool.eq_iff_iff, twin_iff, twin_iff]; constructor <;> (rintro ⟨a, b, c⟩; exact ⟨a.symm, b.symm, c.symm⟩)
/-! The order. -/
theorem less_asym {x y : Rt} (h : lessR x y = true) : lessR y x = false := by
  cases hb : lessR y x with
  | false => rfl
  | true =>
    have := less_trans _ _ _ _ _ _ h hb
    rw [less_irr] at this; simp at this
theorem same_net {x y : Rt} (hx : Okr x) (hy : Okr y) (h1 : lessR x y = false) (h2 : lessR y x = false) : x.v = y.v ∧ x.l = y.l := by
  by_cases h : x.v = y.v ∧ x.l = y.l
  · exact h
  · have := less_one x.v y.v x.l y.l hx.2 hy.2 h
    unfold lessR at h1 h2
    rw [h1, h2] at this; simp at this
theorem less_same_left {x y z : Rt} (h1 : x.v = y.v) (h2 : x.l = y.l) : lessR x z = lessR y z := by unfold lessR; rw [h1, h2]
theorem less_same_right {x y z : Rt} (h1 : x.v = y.v) (h2 : x.l = y.l) : lessR z x = lessR z y := by unfold lessR; rw [h1, h2]
theorem ahead_iff {x y : Rt} : ahead x y = true ↔ lessR x y = true ∨ lessR y x = false ∧ x.b < y.b := by
  unfold ahead; simp
theorem ahead_irr (x : Rt) : ahead x x = false := by
  cases h : ahead x x with
  | false => rfl
  | true =>
    rcases ahead_iff.1 h with h | ⟨_, h⟩
    · unfold lessR at h; rw [less_irr] at h; simp at h
    · omega
theorem ahead_trans {x y z : Rt} (hx : Okr x) (hy : Okr y) (hz : Okr z) (h1 : ahead x y = true) (h2 : ahead y z = true) : ahead x z = true := by
  rw [ahead_iff] at *
  cases a1 : lessR x y with
  | true =>
    left
    cases a2 : lessR y z with
    | true => exact less_trans _ _ _ _ _ _ a1 a2
    | false =>
      rcases h2 with h2 | ⟨h2, _⟩
      · rw [a2] at h2; simp at h2
      · obtain ⟨e1, e2⟩ := same_net hy hz a2 h2
        rw [← less_same_right e1 e2]; exact a1
  | false =>
    rcases h1 with h1 | ⟨b1, c1⟩
    · rw [a1] at h1; simp at h1
    · obtain ⟨e1, e2⟩ := same_net hx hy a1 b1
      rcases h2 with h2 | ⟨b2, c2⟩
      · left; rw [less_same_left e1 e2]; exact h2
      · right; exact ⟨by rw [less_same_right e1 e2]; exact b2, by omega⟩
theorem ahead_total {x y : Rt} (hx : Okr x) (hy : Okr y) (h1 : ahead y x = false) (h2 : twin x y = false) : ahead x y = true := by
  rw [ahead_iff]
  cases a1 : lessR x y with
  | true => exact .inl rfl
  | false =>
    right
    cases a2 : lessR y x with
    | true => rw [ahead_iff.2 (.inl a2)] at h1; simp at h1
    | false =>
      refine ⟨rfl, ?_⟩
      obtain ⟨e1, e2⟩ := same_net hx hy a1 a2
      rcases Int.lt_trichotomy x.b y.b with h | h | h
      · exact h
      · rw [twin_iff.2 ⟨e1, e2, h⟩] at h2; simp at h2
      · rw [ahead_iff.2 (.inr ⟨a1, h⟩)] at h1; simp at h1
theorem ahead_asym {x y : Rt} (hx : Okr x) (hy : Okr y) (h : ahead x y = true) : ahead y x = false := by
  cases hb : ahead y x with
  | false => rfl
  | true => have := ahead_trans hx hy hx h hb; rw [ahead_irr] at this; simp at this
theorem ahead_ntwin {x y : Rt} (hx : Okr x) (h : ahead x y = true) : twin x y = false := by
  cases hb : twin x y with
  | false => rfl
  | true =>
    obtain ⟨e1, e2, e3⟩ := twin_iff.1 hb
    rcases ahead_iff.1 h with h | ⟨_, h⟩
    · rw [less_same_left e1 e2] at h; unfold lessR at h; rw [less_irr] at h; simp at h
    · omega
/-! Lists that may be. -/
def noTw : List Rt → Bool
  | [] => true
  | x :: r => (r.all fun y => !twin x y) && noTw r
theorem noTw_iff : ∀ L : List Rt, noTw L = true ↔ L.Pairwise fun x y => twin x y = false
  | [] => by simp [noTw]
  | x :: r => by
    rw [noTw, Bool.and_eq_true, noTw_iff r, List.pairwise_cons, List.all_eq_true]
    constructor
    · rintro ⟨h, h'⟩; exact ⟨fun y hy => by simpa using h y hy, h'⟩
    · rintro ⟨h, h'⟩; exact ⟨fun y hy => by simpa using h y hy, h'⟩
def mayL (L : List Rt) : Bool := decide (L.length ≤ 32) && (L.all mayR && noTw L)
theorem mayL_iff {L : List Rt} : mayL L = true ↔ L.length ≤ 32 ∧ (∀ x ∈ L, mayR x = true) ∧ L.Pairwise fun x y => twin x y = false := by
  unfold mayL; rw [Bool.and_eq_true, Bool.and_eq_true, noTw_iff, List.all_eq_true]; simp
theorem mayL_perm {L M : List Rt} (h : L.Perm M) : mayL L = mayL M := by
  rw [Bool.eq_iff_iff, mayL_iff, mayL_iff, h.length_eq]
  have hs : ∀ {x y : Rt}, twin x y = false → twin y x = false := fun {x y} e => by rw [twin_sym]; exact e
  rw [h.pairwise_iff hs]
  constructor <;> (rintro ⟨a, b, c⟩; exact ⟨a, fun x hx => b x (by first | exact h.mem_iff.2 hx | exact h.mem_iff.1 hx), c⟩)
/-- A list in the order of routes. -/
def IsOrd (L S : List Rt) : Prop := S.Perm L ∧ S.Pairwise fun x y => ahead x y = true
theorem ord_uniq : ∀ {S T : List Rt}, (∀ x ∈ S, Okr x) → S.Perm T → (S.Pairwise fun x y => ahead x y = true) → (T.Pairwise fun x y => ahead x y = true) → S = T
  | [], T, _, hp, _, _ => (List.nil_perm.1 hp).symm
  | x :: r, [], _, hp, _, _ => by have := hp.length_eq; simp at this
  | x :: r, y :: s, hA, hp, h1, h2 => by
    rw [List.pairwise_cons] at h1 h2
    have hB : ∀ z ∈ y :: s, Okr z := fun z hz => hA z (hp.mem_iff.2 hz)
    have e : x = y := by
      have m1 : x ∈ y :: s := hp.mem_iff.1 (by simp)
      have m2 : y ∈ x :: r := hp.mem_iff.2 (by simp)
      rcases List.mem_cons.1 m1 with m1 | m1
      · exact m1
      · rcases List.mem_cons.1 m2 with m2 | m2
        · exact m2.symm
        · have a1 := h1.1 y m2
          have a2 := h2.1 x m1
          rw [ahead_asym (hA x (by simp)) (hA y (by simp [m2])) a1] at a2; simp at a2
    subst e
    rw [ord_uniq (fun z hz => hA z (by simp [hz])) (List.Perm.cons_inv hp) h1.2 h2.2]
/-- What a sort leaves: nothing stands ahead of what is in front of it. -/
def Srtd (S : List Rt) : Prop := S.Pairwise fun x y => ahead y x = false
/-- Twins side by side. -/
def adj : List Rt → Bool
  | [] => false
  | [_] => false
  | x :: y :: r => twin x y || adj (y :: r)
theorem adj_strict : ∀ S : List Rt, (∀ x ∈ S, Okr x) → Srtd S → adj S = false → S.Pairwise fun x y => ahead x y = true
  | [], _, _, _ => List.Pairwise.nil
  | [x], _, _, _ => by simp
  | x :: y :: r, hA, hs, ht => by
    unfold Srtd at hs
    rw [List.pairwise_cons] at hs
    rw [adj, Bool.or_eq_false_iff] at ht
    have ih := adj_strict (y :: r) (fun z hz => hA z (by simp [hz])) hs.2 ht.2
    have hxy := ahead_total (hA x (by simp)) (hA y (by simp)) (hs.1 y (by simp)) ht.1
    rw [List.pairwise_cons]
    refine ⟨fun z hz => ?_, ih⟩
    rcases List.mem_cons.1 hz with rfl | hz'
    · exact hxy
    · exact ahead_trans (hA x (by simp)) (hA y (by simp)) (hA z (by simp [hz'])) hxy ((List.pairwise_cons.1 ih).1 z hz')
theorem adj_two : ∀ S : List Rt, adj S = true → ¬ S.Pairwise fun x y => twin x y = false
  | [], h, _ => by simp [adj] at h
  | [x], h, _ => by simp [adj] at h
  | x :: y :: r, h, hp => by
    rw [List.pairwise_cons] at hp
    rw [adj, Bool.or_eq_true] at h
    rcases h with h | h
    · rw [hp.1 y (by simp)] at h; simp at h
    · exact adj_two (y :: r) h hp.2
theorem adj_may {L S : List Rt} (hA : ∀ x ∈ L, Okr x) (hp : S.Perm L) (hs : Srtd S) (hl : L.length ≤ 32) (hm : ∀ x ∈ L, mayR x = true) : adj S = !mayL L ∧ (adj S = false → IsOrd L S) := by
  have hB : ∀ x ∈ S, Okr x := fun x hx => hA x (hp.mem_iff.1 hx)
  cases ha : adj S with
  | false =>
    have hst := adj_strict S hB hs ha
    refine ⟨?_, fun _ => ⟨hp, hst⟩⟩
    have : mayL S = true := mayL_iff.2 ⟨by rw [hp.length_eq]; exact hl, fun x hx => hm x (hp.mem_iff.1 hx), hst.imp_of_mem fun {x y} hx _ h => ahead_ntwin (hB x hx) h⟩
    rw [← mayL_perm hp, this]; rfl
  | true =>
    refine ⟨?_, by simp⟩
    cases hb : mayL L with
    | false => rfl
    | true =>
      rw [← mayL_perm hp] at hb
      exact absurd (mayL_iff.1 hb).2.2 (adj_two S ha)
/-! Which one leads to a destination. -/
theorem hit_iff {v : Int} {l : List Int} {x : Rt} : hitR v l x = true ↔ maskOk v l x.b = true ∧ maskOk x.v x.l x.b = true ∧ v = x.v ∧ maskL x.b 0 l = maskL x.b 0 x.l := by
  unfold hitR withinP eqL; simp
theorem hit_net {v : Int} {l : List Int} {x : Rt} (h : hitR v l x = true) (hm : mayR x = true) : x.v = v ∧ x.l = maskL x.b 0 l := by
  obtain ⟨-, -, h1, h2⟩ := hit_iff.1 h
  exact ⟨h1.symm, by rw [h2]; exact (mayR_iff.1 hm).2.1.symm⟩
theorem hit_ahead {v : Int} {l : List Int} {x y : Rt} (hb : Byt l) (h1 : hitR v l x = true) (m1 : mayR x = true) (h2 : hitR v l y = true) (m2 : mayR y = true) (hlt : x.b < y.b) : ahead x y = true := by
  obtain ⟨e1, e2⟩ := hit_net h1 m1
  obtain ⟨e3, e4⟩ := hit_net h2 m2
  have e5 : x.l = maskL x.b 0 y.l := by rw [e4, maskL_maskL _ _ _ _ hb, Int.min_eq_right (by omega)]; exact e2
  have hy : Byt y.l := by rw [e4]; exact maskL_bytes _ _ _ hb
  have := less_mask y.v y.l x.b hy
  rw [← e5] at this
  rw [ahead_iff]
  right
  refine ⟨?_, hlt⟩
  unfold lessR
  rw [e1, ← e3]
  exact this
theorem hit_twin {v : Int} {l : List Int} {x y : Rt} (h1 : hitR v l x = true) (m1 : mayR x = true) (h2 : hitR v l y = true) (m2 : mayR y = true) (h : x.b = y.b) : twin x y = true := by
  obtain ⟨e1, e2⟩ := hit_net h1 m1
  obtain ⟨e3, e4⟩ := hit_net h2 m2
  exact twin_iff.2 ⟨by rw [e1, e3], by rw [e2, e4, h], h⟩
/-- The last one that holds it. -/
def findP (v : Int) (l : List Int) (S : List Rt) : Option Rt := S.reverse.find? (hitR v l)
/-- The longest net that holds it. -/
structure Best (v : Int) (l : List Int) (L : List Rt) (x : Rt) : Prop where
  mem : x ∈ L
  hit : hitR v l x = true
  top : ∀ y ∈ L, hitR v l y = true → y.b ≤ x.b
theorem find_none {v : Int} {l : List Int} {S : List Rt} : findP v l S = none ↔ ∀ x ∈ S, hitR v l x = false := by
  unfold findP
  rw [List.find?_eq_none]
  simp
theorem find_best {v : Int} {l : List Int} {S : List Rt} {x : Rt} (hb : Byt l) (hm : ∀ x ∈ S, mayR x = true) (hA : ∀ x ∈ S, Okr x) (hs : S.Pairwise fun x y => ahead x y = true) (h : findP v l S = some x) : Best v l S x := by
  unfold findP at h
  rw [List.find?_eq_some_iff_append] at h
  obtain ⟨h1, qs, bs, h2, h3⟩ := h
  have h2' : S = bs.reverse ++ x :: qs.reverse := by
    have := congrArg List.reverse h2; simpa using this
  have hx : x ∈ S := by rw [h2']; simp
  refine ⟨hx, h1, fun y hy hh => ?_⟩
  rcases (show x.b < y.b ∨ y.b ≤ x.b by omega) with hlt | hge
  · exfalso
    have hax := hit_ahead hb h1 (hm x hx) hh (hm y hy) hlt
    rw [h2'] at hy hs
    rw [List.pairwise_append] at hs
    rcases List.mem_append.1 hy with hy1 | hy1
    · have := hs.2.2 y hy1 x (by simp)
      have hyS : y ∈ S := by rw [h2']; simp at hy1 ⊢; exact .inl hy1
      rw [ahead_asym (hA x hx) (hA y hyS) hax] at this; simp at this
    · rcases List.mem_cons.1 hy1 with rfl | hy2
      · omega
      · have := h3 y (by simpa using hy2)
        rw [hh] at this; simp at this
  · exact hge
theorem best_uniq {v : Int} {l : List Int} {L : List Rt} {x y : Rt} (hm : ∀ x ∈ L, mayR x = true) (ht : L.Pairwise fun x y => twin x y = false) (h1 : Best v l L x) (h2 : Best v l L y) : x = y := by
  have e : x.b = y.b := by have := h1.top y h2.mem h2.hit; have := h2.top x h1.mem h1.hit; omega
  have tw := hit_twin h1.hit (hm x h1.mem) h2.hit (hm y h2.mem) e
  have : ∀ a ∈ L, ∀ b ∈ L, twin a b = true → a = b := by
    intro a ha b hb hab
    obtain ⟨i, hi, rfl⟩ := List.mem_iff_getElem.1 ha
    obtain ⟨j, hj, rfl⟩ := List.mem_iff_getElem.1 hb
    rcases Nat.lt_trichotomy i j with h | h | h
    · have := List.pairwise_iff_getElem.1 ht i j hi hj h; rw [this] at hab; simp at hab
    · subst h; rfl
    · have := List.pairwise_iff_getElem.1 ht j i hj hi h; rw [twin_sym, this] at hab; simp at hab
  exact this x h1.mem y h2.mem tw
end Go.Proofs.YtoifolmcdkfniabGreatDoor
