/-
  Plain data: the ticks at which numbers were given, batches, who is busy.
-/
namespace Go.Proofs.Ytepbgigoekpdeaa
set_option linter.unusedVariables false

abbrev Sp := Int × Int
theorem int_lt_or_ge (a b : Int) : a < b ∨ b ≤ a := by omega
theorem nil_or_snoc {α : Type} (l : List α) : l = [] ∨ ∃ (F : List α) (x : α), l = F ++ [x] := by
  rcases List.eq_nil_or_concat l with h | ⟨F, x, h⟩
  · exact .inl h
  · exact .inr ⟨F, x, by rw [h, List.concat_eq_append]⟩
def lastP (G : List Int) : Int := G.getLast?.getD 0
def cnt (li now : Int) (G : List Int) : Nat := G.countP (fun t => decide (now - t < li))
structure Good (sp li : Int) (G : List Int) : Prop where
  sp1 : 1 ≤ sp
  sp2 : sp ≤ 4294967296
  li0 : 0 ≤ li
  li1 : li ≤ 4294967296
  bd : ∀ t ∈ G, 0 ≤ t ∧ t ≤ 1099511627776
  up : G.Pairwise (· ≤ ·)
  apart : ∀ (i j : Nat) (x y : Int), (i : Int) + sp ≤ j → G[i]? = some x → G[j]? = some y → li ≤ y - x
theorem Good.nil {sp li : Int} (h1 : 1 ≤ sp) (h2 : sp ≤ 4294967296) (h3 : 0 ≤ li) (h4 : li ≤ 4294967296) : Good sp li [] :=
  ⟨h1, h2, h3, h4, by simp, .nil, by simp⟩
theorem last_snoc (G : List Int) (x : Int) : lastP (G ++ [x]) = x := by simp [lastP]
theorem le_last : ∀ (G : List Int), G.Pairwise (· ≤ ·) → ∀ t ∈ G, t ≤ lastP G := by
  intro G hp t ht
  rcases nil_or_snoc G with rfl | ⟨F, x, rfl⟩
  · simp at ht
  · rw [last_snoc]
    rw [List.pairwise_append] at hp
    rcases List.mem_append.1 ht with h | h
    · exact hp.2.2 t h x (by simp)
    · simp at h; omega
theorem Good.last {sp li : Int} {G : List Int} (h : Good sp li G) : 0 ≤ lastP G ∧ lastP G ≤ 1099511627776 := by
  rcases nil_or_snoc G with rfl | ⟨F, x, rfl⟩
  · simp [lastP]
  · rw [last_snoc]; exact h.bd x (by simp)
theorem get_lt' {l : List Int} {i : Nat} {x : Int} (h : l[i]? = some x) : i < l.length := by
  rcases Nat.lt_or_ge i l.length with h' | h'
  · exact h'
  · rw [List.getElem?_eq_none h'] at h; simp at h
theorem cnt_le (li now : Int) (G : List Int) : cnt li now G ≤ G.length := List.countP_le_length
theorem cnt_at (li now : Int) : ∀ (G : List Int), G.Pairwise (· ≤ ·) → ∀ (i : Nat) (x : Int), G[i]? = some x → (now - x < li ↔ G.length - cnt li now G ≤ i) := by
  intro G
  induction G with
  | nil => intro _ i x h; simp at h
  | cons h t ih =>
    intro hp i x hx
    rw [List.pairwise_cons] at hp
    by_cases hh : now - h < li
    · have e : cnt li now (h :: t) = (h :: t).length := by
        unfold cnt
        rw [List.countP_eq_length]
        intro a ha
        rcases List.mem_cons.1 ha with rfl | ha
        · simpa using hh
        · have := hp.1 a ha; simp; omega
      rw [e]
      have hm := List.mem_of_getElem? hx
      have : h ≤ x := by
        rcases List.mem_cons.1 hm with rfl | ha
        · omega
        · exact hp.1 x ha
      constructor
      · intro _; omega
      · intro _; omega
    · have e : cnt li now (h :: t) = cnt li now t := by
        unfold cnt
        rw [List.countP_cons_of_neg (by simpa using hh)]
      rw [e]
      have hl := cnt_le li now t
      cases i with
      | zero =>
        simp at hx
        subst hx
        constructor
        · intro h'; exact absurd h' hh
        · intro h'; simp at h'; omega
      | succ i =>
        have := ih hp.2 i x (by simpa using hx)
        rw [this]
        simp only [List.length_cons]
        omega
theorem cnt_sp {sp li now : Int} {G : List Int} (h : Good sp li G) (hn : lastP G ≤ now) : (cnt li now G : Int) ≤ sp := by
  rcases int_lt_or_ge sp (cnt li now G) with hc | hc
  · exfalso
    have hl := cnt_le li now G
    have h1 := h.sp1
    have i1 : G.length - cnt li now G < G.length := by omega
    have i2 : G.length - 1 < G.length := by omega
    have a := (cnt_at li now G h.up _ _ (List.getElem?_eq_getElem i1)).2 (Nat.le_refl _)
    have b := h.apart _ _ _ _ (by omega) (List.getElem?_eq_getElem i1) (List.getElem?_eq_getElem i2)
    have c := le_last G h.up _ (List.getElem_mem i2)
    omega
  · exact hc
theorem full_iff {sp li now : Int} {G : List Int} (h : Good sp li G) (hn : lastP G ≤ now) :
    ((cnt li now G : Int) = sp) ↔ (sp ≤ G.length ∧ ∃ x, G[G.length - sp.toNat]? = some x ∧ now - x < li) := by
  have hs := cnt_sp h hn
  have hl := cnt_le li now G
  have h1 := h.sp1
  constructor
  · intro e
    refine ⟨by omega, ?_⟩
    have i1 : G.length - sp.toNat < G.length := by omega
    exact ⟨_, List.getElem?_eq_getElem i1, (cnt_at li now G h.up _ _ (List.getElem?_eq_getElem i1)).2 (by omega)⟩
  · rintro ⟨h2, x, hx, hlt⟩
    have := (cnt_at li now G h.up _ _ hx).1 hlt
    omega
abbrev mayP (G : List Int) (now : Int) : Prop := lastP G ≤ now ∧ now ≤ 1099511627776
abbrev fullP (sp li : Int) (G : List Int) (now : Int) : Prop := (cnt li now G : Int) = sp
def nextN (sp li : Int) (G : List Int) (now : Int) : Int := if mayP G now then if fullP sp li G now then 0 else (G.length : Int) % sp else 0
def nextE (sp li : Int) (G : List Int) (now : Int) : Int := if mayP G now then if fullP sp li G now then 120 else 0 else 1
def nextG (sp li : Int) (G : List Int) (now : Int) : List Int := if mayP G now then if fullP sp li G now then G else G ++ [now] else G
def busyN (li : Int) (G : List Int) (now : Int) : Int := if mayP G now then cnt li now G else 0
def busyE (G : List Int) (now : Int) : Int := if mayP G now then 0 else 1
theorem Good.snoc {sp li now : Int} {G : List Int} (h : Good sp li G) (hm : mayP G now) (hf : ¬ fullP sp li G now) : Good sp li (G ++ [now]) := by
  obtain ⟨m1, m2⟩ := hm
  have hs := cnt_sp h m1
  have hl := cnt_le li now G
  have hl2 := h.last
  unfold fullP at hf
  refine ⟨h.sp1, h.sp2, h.li0, h.li1, ?_, ?_, ?_⟩
  · intro t ht
    rcases List.mem_append.1 ht with ht | ht
    · exact h.bd t ht
    · simp at ht; subst ht; omega
  · rw [List.pairwise_append]
    refine ⟨h.up, by simp, ?_⟩
    intro a ha b hb
    simp at hb
    subst hb
    have := le_last G h.up a ha
    omega
  · intro i j x y hij hx hy
    have hj : j < (G ++ [now]).length := get_lt' hy
    simp at hj
    have h1 := h.sp1
    have hi : i < G.length := by omega
    rw [List.getElem?_append_left hi] at hx
    by_cases hj2 : j < G.length
    · rw [List.getElem?_append_left hj2] at hy
      exact h.apart i j x y hij hx hy
    · obtain rfl : j = G.length := by omega
      simp at hy
      subst hy
      rcases int_lt_or_ge (now - x) li with hc | hc
      · have := (cnt_at li now G h.up i x hx).1 hc
        omega
      · omega
theorem Good.next {sp li : Int} {G : List Int} (h : Good sp li G) (now : Int) : Good sp li (nextG sp li G now) := by
  unfold nextG
  split
  · split
    · exact h
    · exact h.snoc ‹_› ‹_›
  · exact h
theorem next_len (sp li : Int) (G : List Int) (now : Int) : (nextG sp li G now).length ≤ G.length + 1 := by
  unfold nextG
  split
  · split <;> simp
  · simp

/-! Batches. -/
structure Inv (li : Int) (G : List Int) (bs : List Sp) : Prop where
  up : bs.Pairwise (fun a b => a.1 < b.1)
  le : ∀ b ∈ bs, 0 ≤ b.1 ∧ b.1 ≤ lastP G ∧ 0 ≤ b.2 ∧ b.2 ≤ (G.length : Int)
  ahd : 0 < li → ∀ b ∈ bs, b.2 = (G.countP (fun t => decide (t < b.1)) : Int)
  has : 0 < li → ∀ t ∈ G, lastP G - t < li → ∃ b ∈ bs, b.1 = t
theorem Inv.nil (li : Int) : Inv li [] [] := ⟨.nil, by simp, by simp, by simp⟩
theorem up_len : ∀ (bs : List Sp) (lo hi : Int), bs.Pairwise (fun a b => a.1 < b.1) → (∀ b ∈ bs, lo ≤ b.1 ∧ b.1 ≤ hi) → lo ≤ hi + 1 → (bs.length : Int) ≤ hi - lo + 1 := by
  intro bs
  induction bs with
  | nil => intro lo hi _ _ h; simp; omega
  | cons b t ih =>
    intro lo hi hp hb h
    rw [List.pairwise_cons] at hp
    have h1 := hb b (by simp)
    have := ih (b.1 + 1) hi hp.2 (fun x hx => ⟨by have := hp.1 x hx; omega, (hb x (by simp [hx])).2⟩) (by omega)
    simp
    omega
theorem Inv.len {sp li : Int} {G : List Int} {bs : List Sp} (h : Inv li G bs) (hg : Good sp li G) : bs.length ≤ 1099511627777 := by
  have hl := hg.last
  have := up_len bs 0 (lastP G) h.up (fun b hb => ⟨(h.le b hb).1, (h.le b hb).2.1⟩) (by omega)
  omega
/-- How many of the batches are over. -/
def CutN (li now : Int) (bs : List Sp) (n : Nat) : Prop :=
  n ≤ bs.length ∧ (∀ k x, k < n → bs[k]? = some x → li ≤ now - x.1) ∧ (∀ k x, n ≤ k → bs[k]? = some x → now - x.1 < li)
theorem get_mem {l : List Sp} {x : Sp} (h : x ∈ l) : ∃ i : Nat, l[i]? = some x := by
  obtain ⟨i, hi, rfl⟩ := List.getElem_of_mem h
  exact ⟨i, by simp [hi]⟩
theorem up_get {bs : List Sp} (hp : bs.Pairwise (fun a b => a.1 < b.1)) {i j : Nat} {x y : Sp} (hi : bs[i]? = some x) (hj : bs[j]? = some y) (hij : i < j) : x.1 < y.1 := by
  rw [List.pairwise_iff_getElem] at hp
  have h1 : i < bs.length := by
    rcases Nat.lt_or_ge i bs.length with h | h
    · exact h
    · rw [List.getElem?_eq_none h] at hi; simp at hi
  have h2 : j < bs.length := by
    rcases Nat.lt_or_ge j bs.length with h | h
    · exact h
    · rw [List.getElem?_eq_none h] at hj; simp at hj
  have := hp i j h1 h2 hij
  rw [List.getElem?_eq_getElem h1] at hi
  rw [List.getElem?_eq_getElem h2] at hj
  simp at hi hj
  rw [hi, hj] at this
  exact this
theorem busy_none {sp li now : Int} {G : List Int} {bs : List Sp} (hg : Good sp li G) (h : Inv li G bs) (hn : lastP G ≤ now) (hc : CutN li now bs bs.length) : cnt li now G = 0 := by
  unfold cnt
  rw [List.countP_eq_zero]
  intro t ht
  have h1 := le_last G hg.up t ht
  simp only [decide_eq_true_eq]
  intro hlt
  obtain ⟨b, hb, rfl⟩ := h.has (by omega) t ht (by omega)
  obtain ⟨i, hi⟩ := get_mem hb
  have hi2 : i < bs.length := by
    rcases Nat.lt_or_ge i bs.length with h | h
    · exact h
    · rw [List.getElem?_eq_none h] at hi; simp at hi
  have := hc.2.1 i b hi2 hi
  omega
theorem busy_some {sp li now : Int} {G : List Int} {bs : List Sp} {n : Nat} {x : Sp} (hg : Good sp li G) (h : Inv li G bs) (hn : lastP G ≤ now) (hc : CutN li now bs n) (hx : bs[n]? = some x) : (cnt li now G : Int) = G.length - x.2 := by
  have hxm := List.mem_of_getElem? hx
  have hx1 := hc.2.2 n x (Nat.le_refl _) hx
  have hx2 := h.le x hxm
  have hli : 0 < li := by omega
  rw [h.ahd hli x hxm]
  have e : cnt li now G = G.countP (fun t => ! decide (t < x.1)) := by
    unfold cnt
    refine List.countP_congr ?_
    intro t ht
    have h1 := le_last G hg.up t ht
    simp only [decide_eq_true_eq, Bool.not_eq_true', decide_eq_false_iff_not]
    constructor
    · intro hlt ht2
      obtain ⟨b, hb, rfl⟩ := h.has hli t ht (by omega)
      obtain ⟨i, hi⟩ := get_mem hb
      rcases Nat.lt_or_ge i n with hin | hin
      · have := hc.2.1 i b hin hi; omega
      · rcases Nat.lt_or_ge n i with hni | hni
        · have := up_get h.up hx hi hni; omega
        · obtain rfl : i = n := by omega
          rw [hi] at hx; simp at hx; subst hx; omega
    · intro ht2; omega
  have := List.length_eq_countP_add_countP (fun t => decide (t < x.1)) (l := G)
  have e2 : G.countP (fun t => ! decide (t < x.1)) = G.countP (fun a => decide ¬ (decide (a < x.1) = true)) := by
    refine List.countP_congr ?_
    intro t _
    simp
  rw [e, e2]
  omega
def noteP (bs : List Sp) (n : Int) (now : Int) : List Sp := if bs = [] ∨ (bs.getLast?.map (·.1)) ≠ some now then bs ++ [(now, n)] else bs
theorem le_lastB : ∀ (bs : List Sp), bs.Pairwise (fun a b => a.1 < b.1) → ∀ b ∈ bs, ∀ y, bs.getLast? = some y → b.1 ≤ y.1 := by
  intro bs hp b hb y hy
  rcases nil_or_snoc bs with rfl | ⟨F, x, rfl⟩
  · simp at hb
  · simp at hy
    subst hy
    rw [List.pairwise_append] at hp
    rcases List.mem_append.1 hb with h | h
    · have := hp.2.2 b h x (by simp); omega
    · simp at h; subst h; exact Int.le_refl _
theorem Inv.note {sp li now : Int} {G : List Int} {bs : List Sp} (hg : Good sp li G) (h : Inv li G bs) (hn : lastP G ≤ now) : Inv li (G ++ [now]) (noteP bs G.length now) := by
  have hl := hg.last
  have keep : ∀ b ∈ bs, 0 < li → b.2 = ((G ++ [now]).countP (fun t => decide (t < b.1)) : Int) := by
    intro b hb hli
    rw [List.countP_append, h.ahd hli b hb]
    have := (h.le b hb).2.1
    have e : [now].countP (fun t => decide (t < b.1)) = 0 := by
      rw [List.countP_eq_zero]
      intro a ha
      simp at ha
      subst ha
      simp
      omega
    rw [e]
    simp
  have old : ∀ b ∈ bs, 0 ≤ b.1 ∧ b.1 ≤ lastP (G ++ [now]) ∧ 0 ≤ b.2 ∧ b.2 ≤ ((G ++ [now]).length : Int) := by
    intro b hb
    rw [last_snoc]
    have := h.le b hb
    simp
    omega
  unfold noteP
  split
  · rename_i hc
    have lt : ∀ b ∈ bs, b.1 < now := by
      intro b hb
      rcases hc with rfl | hc
      · simp at hb
      · obtain ⟨y, hy⟩ : ∃ y, bs.getLast? = some y := by
          rcases nil_or_snoc bs with rfl | ⟨F, x, rfl⟩
          · simp at hb
          · exact ⟨x, by simp⟩
        have h1 := le_lastB bs h.up b hb y hy
        have h2 := (h.le y (List.mem_of_getLast? hy)).2.1
        rw [hy] at hc
        simp at hc
        omega
    refine ⟨?_, ?_, ?_, ?_⟩
    · rw [List.pairwise_append]
      refine ⟨h.up, by simp, ?_⟩
      intro a ha b hb
      simp at hb
      subst hb
      exact lt a ha
    · intro b hb
      rcases List.mem_append.1 hb with hb | hb
      · exact old b hb
      · simp at hb; subst hb; rw [last_snoc]; simp; omega
    · intro hli b hb
      rcases List.mem_append.1 hb with hb | hb
      · exact keep b hb hli
      · simp at hb
        subst hb
        rw [List.countP_append]
        have e1 : G.countP (fun t => decide (t < now)) = G.length := by
          rw [List.countP_eq_length]
          intro t ht
          have h1 := le_last G hg.up t ht
          simp only [decide_eq_true_eq]
          rcases int_lt_or_ge t now with h2 | h2
          · exact h2
          · obtain ⟨b, hb, h3⟩ := h.has hli t ht (by omega)
            have := lt b hb
            omega
        have e2 : [now].countP (fun t => decide (t < now)) = 0 := by
          rw [List.countP_eq_zero]
          simp
        simp only [e1, e2]
        simp
    · intro hli t ht hlt
      rw [last_snoc] at hlt
      rcases List.mem_append.1 ht with ht | ht
      · obtain ⟨b, hb, h3⟩ := h.has hli t ht (by omega)
        exact ⟨b, by simp [hb], h3⟩
      · simp at ht
        subst ht
        exact ⟨(t, G.length), by simp, rfl⟩
  · rename_i hc
    refine ⟨h.up, old, fun hli b hb => keep b hb hli, ?_⟩
    intro hli t ht hlt
    rw [last_snoc] at hlt
    rcases List.mem_append.1 ht with ht | ht
    · exact h.has hli t ht (by omega)
    · simp at ht
      subst ht
      have hc2 : bs ≠ [] ∧ (bs.getLast?.map (·.1)) = some t := by
        constructor
        · intro e; exact hc (.inl e)
        · rcases Decidable.em ((bs.getLast?.map (·.1)) = some t) with e | e
          · exact e
          · exact absurd (.inr e) hc
      obtain ⟨y, hy, e⟩ := Option.map_eq_some_iff.1 hc2.2
      exact ⟨y, List.mem_of_getLast? hy, e⟩
theorem Inv.drop {li : Int} {G : List Int} {bs : List Sp} {n : Nat} (h : Inv li G bs) (hc : CutN li (lastP G) bs n) : Inv li G (bs.drop n) := by
  refine ⟨h.up.sublist (List.drop_sublist _ _), fun b hb => h.le b (List.mem_of_mem_drop hb), fun hli b hb => h.ahd hli b (List.mem_of_mem_drop hb), ?_⟩
  intro hli t ht hlt
  obtain ⟨b, hb, rfl⟩ := h.has hli t ht hlt
  obtain ⟨i, hi⟩ := get_mem hb
  rcases Nat.lt_or_ge i n with hin | hin
  · have := hc.2.1 i b hin hi; omega
  · refine ⟨b, List.mem_of_getElem? (i := i - n) ?_, rfl⟩
    rw [List.getElem?_drop, show n + (i - n) = i by omega]
    exact hi
#print axioms Inv.drop
end Go.Proofs.Ytepbgigoekpdeaa
