/-
  The state of TableApart's loop, seen from one side.
-/
import Derived.Test.YtkccpidgeecemaaGreatDoorTwB
import Derived.Test.YtkccpidgeecemaaGreatDoorTbD
import Derived.Test.YtkccpidgeecemaaGreatDoorTbC
namespace Go.Proofs.YtkccpidgeecemaaGreatDoor
set_option linter.unusedVariables false
set_option linter.unusedSimpArgs false
set_option maxRecDepth 20000

/-- What an entry's numbers keep to, poisoned or not. -/
def Hs (s : Es) : Prop := (0 ≤ s.h ∧ s.h ≤ 65535) ∧ (s.bad = false → ∃ T, Iv s T)
theorem hs_new (k : Pk) (t : Int) : Hs (newS k t) := ⟨by simp [newS], fun _ => ⟨_, iv_new k t⟩⟩
theorem hs_pois (s : Es) : Hs (poisS s) := ⟨by simp [poisS], fun h => by simp [poisS] at h⟩
theorem hs_put {s : Es} {p : Pk} (h : Hs s) (hw : Wf p) : Hs (putS s p).2 := by
  refine ⟨?_, put_iv h.2 hw⟩
  by_cases hb : (putS s p).2.bad = false
  · obtain ⟨T, hT⟩ := put_iv h.2 hw hb
    have h1 := hT.cnt
    have h2 := cnt_le T 65535
    omega
  · unfold putS at hb ⊢
    by_cases h1 : ownB s p = false
    · rw [if_pos h1]; exact h.1
    · rw [if_neg h1] at hb ⊢
      by_cases h2 : s.bad = true
      · rw [if_pos h2]; exact h.1
      · rw [if_neg h2] at hb ⊢
        by_cases h3 : (takeS s p).1 = 4
        · rw [if_pos h3]; exact (hs_pois s).1
        · rw [if_neg h3] at hb
          rw [(take_bad s p).1] at hb
          exact absurd (by simpa using hb) h2
/-- What one key's entry becomes, and what is told. -/
def apN (a : Option Es) (p : Pk) : Int × List Pk × Option Es :=
  if isWhP p = true then (0, [dgP p], a)
  else if (putS (a.getD (newS p 1)) p).1 = 6 then (6, [(wholeP (putS (a.getD (newS p 1)) p).2).1], none)
  else if 8192 < holesN (putS (a.getD (newS p 1)) p).2 then (4, [], some (poisS (putS (a.getD (newS p 1)) p).2))
  else ((putS (a.getD (newS p 1)) p).1, [], some (putS (a.getD (newS p 1)) p).2)
/-- The entries of two keys, the one's ahead or the other's. -/
def Mix (l : List Es) (a b : Option Es) : Prop := l = a.toList ++ b.toList ∨ l = b.toList ++ a.toList
theorem Mix.symm {l : List Es} {a b : Option Es} (h : Mix l a b) : Mix l b a := h.elim .inr .inl
theorem Mix.one {l : List Es} {a : Option Es} (h : Mix l a none) : l = a.toList := by rcases h with h | h <;> simpa using h
theorem push_no {cs : List Cel} (hl : cs.length ≤ 2) (hh : ∀ c ∈ cs, 0 ≤ c.s.h ∧ c.s.h ≤ 65535) : pushN wideQ cs = 0 := by
  cases cs with
  | nil => rfl
  | cons c r =>
    rw [pushN, if_neg]
    unfold overB
    rw [Bool.or_eq_true, decide_eq_true_eq, decide_eq_true_eq]
    have h1 := hh c (by simp)
    have h2 : 0 ≤ sumC r ∧ sumC r ≤ 65535 := by
      cases r with
      | nil => simp [sumC]
      | cons d r =>
        have h3 := hh d (by simp)
        cases r with
        | nil => simp [sumC]; try omega
        | cons e r => simp at hl
    rw [sumC_cons]
    simp only [wideQ] at *
    simp at hl
    show ¬ ((64 : Int) < _ ∨ (1048576 : Int) < _)
    simp only [List.length_cons]
    omega
/-- An entry, of one of two keys. -/
theorem mix_len {l : List Es} {a b : Option Es} (h : Mix l a b) : l.length ≤ 2 := by
  rcases h with rfl | rfl <;> cases a <;> cases b <;> simp
theorem mix_mem {l : List Es} {a b : Option Es} (h : Mix l a b) (s : Es) : s ∈ l ↔ a = some s ∨ b = some s := by
  rcases h with rfl | rfl <;> simp [List.mem_append, or_comm]
theorem erase_map {α β : Type} (f : α → β) : ∀ (l : List α) (i : Nat), (l.eraseIdx i).map f = (l.map f).eraseIdx i
  | [], _ => by simp
  | a :: r, 0 => by simp
  | a :: r, i + 1 => by simp [erase_map f r i]
/-- What stands at a place of two. -/
theorem mix_at {l : List Es} {a b : Option Es} (h : Mix l a b) {s : Es} (ha : a = some s) (hb : b ≠ some s) {i : Nat} (hi : l[i]? = some s) (x : Es) :
    Mix (l.set i x) (some x) b ∧ Mix ((l.set i x).eraseIdx i) none b := by
  subst ha
  rcases h with rfl | rfl
  · cases b with
    | none =>
      match i with
      | 0 => exact ⟨.inl rfl, .inl rfl⟩
      | i + 1 => simp at hi
    | some t =>
      match i with
      | 0 => exact ⟨.inl rfl, .inl rfl⟩
      | 1 => simp at hi; subst hi; simp at hb
      | i + 2 => simp at hi
  · cases b with
    | none =>
      match i with
      | 0 => exact ⟨.inr rfl, .inr rfl⟩
      | i + 1 => simp at hi
    | some t =>
      match i with
      | 0 => simp at hi; subst hi; simp at hb
      | 1 => exact ⟨.inr rfl, .inr rfl⟩
      | i + 2 => simp at hi
theorem mix_new {l : List Es} {b : Option Es} (h : Mix l none b) (s x : Es) : Mix ((l ++ [s]).set l.length x) (some x) b ∧ Mix (((l ++ [s]).set l.length x).eraseIdx l.length) none b := by
  have e : l = b.toList := by rcases h with rfl | rfl <;> simp
  subst e
  cases b with
  | none => exact ⟨.inl rfl, .inl rfl⟩
  | some t => exact ⟨.inr rfl, .inr rfl⟩
/-- What a Put does in a table that holds two keys. -/
theorem res_mix {cs cs' : List Cel} {a b : Option Es} {p : Pk} {n : Int} {wh ks : List Pk} (hm : Mix (cs.map (·.s)) a b) (ha : ∀ s, a = some s → isWhP p = false → kyB p s.k = true) (hb : ∀ s, b = some s → kyB p s.k = false)
    (hs : ∀ s, a = some s ∨ b = some s → Hs s) (hw : Wf p) (h : Res wideQ 1 cs p n wh ks cs') :
    n = (apN a p).1 ∧ wh = (apN a p).2.1 ∧ ks = [] ∧ Mix (cs'.map (·.s)) (apN a p).2.2 b := by
  rcases h with ⟨h1, rfl, rfl, rfl, rfl⟩ | ⟨h1, cs1, i, c, fp1, fp2, hc, ht⟩
  · unfold apN
    rw [if_pos h1]
    exact ⟨rfl, rfl, rfl, hm⟩
  · have key : c.s = a.getD (newS p 1) ∧ Hs c.s ∧ cs1.length ≤ 2 ∧ (∀ x ∈ cs1, Hs x.s) ∧ ∀ (x : Es) (g : Nat) (fp : List Nat), Mix ((cs1.set i ⟨x, g, fp⟩).map (·.s)) (some x) b ∧ Mix (((cs1.set i ⟨x, g, fp⟩).eraseIdx i).map (·.s)) none b := by
      have hl : cs.length ≤ 2 := by simpa using mix_len hm
      have hall : ∀ x ∈ cs, Hs x.s := fun x hx => hs _ ((mix_mem hm x.s).1 (List.mem_map_of_mem hx))
      rcases hc with ⟨rfl, h2, h3⟩ | ⟨h2, g, fp, rfl, rfl, rfl⟩
      · have h4 : (cs1.map (·.s))[i]? = some c.s := by rw [List.getElem?_map, h2]; rfl
        have h5 := (mix_mem hm c.s).1 (List.mem_of_getElem? h4)
        have h6 : b ≠ some c.s := fun e => by rw [hb _ e] at h3; simp at h3
        have h7 : a = some c.s := h5.resolve_right h6
        refine ⟨by rw [h7]; rfl, hall c (List.mem_of_getElem? h2), hl, hall, fun x g fp => ?_⟩
        have h8 := mix_at hm h7 h6 h4 x
        rw [show (cs1.set i ⟨x, g, fp⟩).map (·.s) = (cs1.map (·.s)).set i x from by rw [List.map_set], ]
        rw [show ((cs1.set i ⟨x, g, fp⟩).eraseIdx i).map (·.s) = ((cs1.map (·.s)).set i x).eraseIdx i from by rw [erase_map, List.map_set]]
        exact h8
      · have h3 : a = none := by
          cases ea : a with
          | none => rfl
          | some s =>
            have h4 := (mix_mem hm s).2 (.inl ea)
            obtain ⟨d, hd, hds⟩ := List.mem_map.1 h4
            have h5 := h2 d hd
            rw [hds, ha s ea h1] at h5
            simp at h5
        subst h3
        have hl1 : cs.length ≤ 1 := by
          have e : cs.map (·.s) = b.toList := by rcases hm with e | e <;> simpa using e
          have := congrArg List.length e
          rw [List.length_map] at this
          have h2 : b.toList.length ≤ 1 := by cases b <;> simp
          omega
        refine ⟨rfl, hs_new p 1, by simp; omega, fun x hx => ?_, fun x g' fp' => ?_⟩
        · rcases List.mem_append.1 hx with hx | hx
          · exact hall x hx
          · simp at hx; subst hx; exact hs_new p 1
        · have h8 := mix_new hm (newS p 1) x
          have e2 : ((cs ++ [(⟨newS p 1, g, fp⟩ : Cel)]).set cs.length ⟨x, g', fp'⟩).map (·.s) = ((cs.map (·.s)) ++ [newS p 1]).set (cs.map (·.s)).length x := by rw [List.map_set, List.map_append, List.length_map]; rfl
          rw [erase_map, e2]
          rw [List.length_map] at h8 ⊢
          exact h8
    obtain ⟨k1, k2, k3, k4, k5⟩ := key
    have hno : ∀ x g fp, Hs x → pushN wideQ (cs1.set i ⟨x, g, fp⟩) = 0 := fun x g fp hx => push_no (by rw [List.length_set]; exact k3) (fun d hd => by
      rcases List.mem_or_eq_of_mem_set hd with h2 | rfl
      · exact (k4 d h2).1
      · exact hx.1)
    unfold takeC at ht
    unfold apN
    rw [if_neg (by rw [h1]; simp), ← k1]
    have hp := hs_put k2 hw
    by_cases h6 : (putS c.s p).1 = 6
    · rw [if_pos h6] at ht ⊢
      injection ht with t1 t2 t3 t4
      exact ⟨t1.symm, t2.symm, t3.symm, by rw [← t4]; exact (k5 _ _ _).2⟩
    · rw [if_neg h6] at ht ⊢
      by_cases h7 : wideQ.h < holesN (putS c.s p).2
      · rw [if_pos h7] at ht
        rw [if_pos (show 8192 < holesN (putS c.s p).2 from h7)]
        rw [hno _ _ _ (hs_pois _)] at ht
        injection ht with t1 t2 t3 t4
        exact ⟨t1.symm, t2.symm, by rw [← t3]; rfl, by rw [← t4, List.drop_zero]; exact (k5 _ _ _).1⟩
      · rw [if_neg h7] at ht
        rw [if_neg (show ¬ 8192 < holesN (putS c.s p).2 from h7)]
        rw [hno _ _ _ hp] at ht
        injection ht with t1 t2 t3 t4
        exact ⟨t1.symm, t2.symm, by rw [← t3]; rfl, by rw [← t4, List.drop_zero]; exact (k5 _ _ _).1⟩
/-- What one key's entry keeps to, whose packets are l. -/
structure Si (l : List Pk) (a : Option Es) : Prop where
  hs : ∀ s, a = some s → Hs s
  k : ∀ s, a = some s → s.k ∈ l ∧ isWhP s.k = false
  tb : ∀ s, a = some s → s.tb = 1
theorem si_none (l : List Pk) : Si l none := ⟨by simp, by simp, by simp⟩
theorem Si.put {l : List Pk} {a : Option Es} (h : Si l a) {p : Pk} (hp : p ∈ l) (hw : Wf p) : Si l (apN a p).2.2 := by
  have h0 : isWhP p = false → Hs (a.getD (newS p 1)) ∧ ((a.getD (newS p 1)).k ∈ l ∧ isWhP (a.getD (newS p 1)).k = false) ∧ (a.getD (newS p 1)).tb = 1 := fun hn => by
    cases ea : a with
    | none => exact ⟨hs_new p 1, ⟨hp, hn⟩, rfl⟩
    | some s => exact ⟨h.hs s ea, h.k s ea, h.tb s ea⟩
  have key : ∀ (s x : Es), Hs x → x.k = s.k → x.tb = s.tb → s.k ∈ l ∧ isWhP s.k = false → s.tb = 1 → Si l (some x) := fun s x h1 h2 h3 h4 h5 =>
    ⟨fun y e => by injection e with e; rw [← e]; exact h1, fun y e => by injection e with e; rw [← e, h2]; exact h4, fun y e => by injection e with e; rw [← e, h3]; exact h5⟩
  unfold apN
  split
  · exact h
  · rename_i hn
    obtain ⟨h1, h2, h3⟩ := h0 (by simpa using hn)
    have h4 := put_kt (a.getD (newS p 1)) p
    split
    · exact si_none l
    · split
      · exact key _ _ (hs_pois _) h4.1 h4.2 h2 h3
      · exact key _ _ (hs_put h1 hw) h4.1 h4.2 h2 h3
/-- Packets of one key, or one that is whole; of two lists no key is in common. -/
structure Two (l m : List Pk) : Prop where
  one : ∀ z ∈ l, ∀ y ∈ l, isWhP y = false → kyB z y = true
  un : ∀ z ∈ l, ∀ y ∈ m, isWhP y = false → kyB z y = false
theorem find_mix {cs : List Cel} {a b : Option Es} {z : Pk} (hm : Mix (cs.map (·.s)) a b) (ha : ∀ s, a = some s → kyB z s.k = true) (hb : ∀ s, b = some s → kyB z s.k = false) : (cs.find? (fun c => kyB z c.s.k)).map (·.s) = a := by
  have e : (cs.find? (fun c => kyB z c.s.k)).map (·.s) = (cs.map (·.s)).find? (fun s => kyB z s.k) := by
    rw [List.find?_map]; rfl
  rw [e]
  cases a with
  | none =>
    cases b with
    | none => rcases hm with h | h <;> rw [h] <;> simp
    | some t => rcases hm with h | h <;> rw [h] <;> simp [List.find?_cons, hb t rfl]
  | some s =>
    cases b with
    | none => rcases hm with h | h <;> rw [h] <;> simp [List.find?_cons, ha s rfl]
    | some t => rcases hm with h | h <;> rw [h] <;> simp [List.find?_cons, ha s rfl, hb t rfl]
/-- What the law asks of Holes and Poisoned. -/
theorem of_mix {cs cs' : List Cel} {a b : Option Es} {z : Pk} (hm : Mix (cs.map (·.s)) a b) (hm' : Mix (cs'.map (·.s)) a none) (ha : ∀ s, a = some s → kyB z s.k = true) (hb : ∀ s, b = some s → kyB z s.k = false) :
    holesOf cs z = holesOf cs' z ∧ poisOf cs z = poisOf cs' z := by
  have h1 := find_mix hm ha hb
  have h2 := find_mix hm' ha (by simp)
  unfold holesOf poisOf
  cases e1 : cs.find? (fun c => kyB z c.s.k) <;> cases e2 : cs'.find? (fun c => kyB z c.s.k) <;> rw [e1] at h1 <;> rw [e2] at h2 <;> simp at h1 h2
  · exact ⟨rfl, rfl⟩
  · rw [← h1] at h2; simp at h2
  · rw [← h2] at h1; simp at h1
  · rename_i c d
    have : c.s = d.s := by rw [← h2] at h1; simpa using h1
    simp only [this, and_self]
theorem sum_mix {cs x y : List Cel} {a b : Option Es} (hm : Mix (cs.map (·.s)) a b) (hx : Mix (x.map (·.s)) a none) (hy : Mix (y.map (·.s)) b none) : sumC cs = sumC x + sumC y ∧ cs.length = x.length + y.length := by
  have h1 := hx.one
  have h2 := hy.one
  have e : ∀ l : List Cel, sumC l = ((l.map (·.s)).map (·.h)).sum := fun l => by unfold sumC; rw [List.map_map]; rfl
  have el : ∀ l : List Cel, l.length = (l.map (·.s)).length := fun l => by rw [List.length_map]
  rw [e cs, e x, e y, el cs, el x, el y, h1, h2]
  rcases hm with h | h <;> rw [h] <;> simp <;> omega
/-! What parted tells has one key. -/
theorem parts_mem {p : Pk} {id : Int} : ∀ {r : List Nat} {y : Pk}, y ∈ partsTo p id r → ∃ f t, y = partQ p f t id
  | [], y, h => by simp [partsTo] at h
  | c :: r, y, h => by
    rw [partsTo] at h
    rcases List.mem_append.1 h with h | h
    · exact parts_mem h
    · simp at h; exact ⟨_, _, h⟩
theorem part_key {p : Pk} {f t : Nat} {id : Int} : (partQ p f t id).v = p.v ∧ (partQ p f t id).sv = p.sv ∧ (partQ p f t id).sb = p.sb ∧ (partQ p f t id).dv = p.dv ∧ (partQ p f t id).db = p.db ∧ (partQ p f t id).proto = p.proto ∧ (partQ p f t id).id = if p.v = 6 then id else p.id := by
  unfold partQ pieceP
  split <;> simp_all
theorem parted_mem {p : Pk} {id : Int} {r : List Nat} (hp : isWhP p = true) {y : Pk} (hy : y ∈ partedL p id r) : (y = p ∧ r = []) ∨ ∃ f t, y = partQ p f t id := by
  unfold partedL at hy
  split at hy
  · rename_i h; simp at hy; exact .inl ⟨hy, h⟩
  · exact .inr (parts_mem hy)
theorem parted_one {p : Pk} {id : Int} {r : List Nat} (hp : isWhP p = true) {z y : Pk} (hz : z ∈ partedL p id r) (hy : y ∈ partedL p id r) (hw : isWhP y = false) : kyB z y = true := by
  unfold partedL at hz hy
  by_cases h : r = []
  · rw [if_pos h] at hz hy
    simp at hz hy
    rw [hy, hp] at hw; simp at hw
  · rw [if_neg h] at hz hy
    obtain ⟨f, t, rfl⟩ := parts_mem hz
    obtain ⟨f', t', rfl⟩ := parts_mem hy
    have h1 := part_key (p := p) (f := f) (t := t) (id := id)
    have h2 := part_key (p := p) (f := f') (t := t') (id := id)
    simp only [kyB, h1, h2, decide_true, Bool.and_self]
theorem parted_un {p q : Pk} {i j : Int} {r s : List Nat} (hp : isWhP p = true) (hq : isWhP q = true) (hv : q.v = 4 ∨ q.v = 6) (h6 : p.v = 6 → p.id ≠ j) (hij : i ≠ j) (h4 : p.v = 4 → kyB p q = false) {z y : Pk} (hz : z ∈ partedL p i r) (hy : y ∈ partedL q j s) (hw : isWhP y = false) : kyB z y = false := by
  rcases parted_mem hq hy with ⟨rfl, -⟩ | ⟨f, t, rfl⟩
  · rw [hq] at hw; simp at hw
  · have h2 := part_key (p := q) (f := f) (t := t) (id := j)
    have hz' : z.v = p.v ∧ z.sv = p.sv ∧ z.sb = p.sb ∧ z.dv = p.dv ∧ z.db = p.db ∧ z.proto = p.proto ∧ (z.id = p.id ∨ (p.v = 6 ∧ z.id = i)) := by
      rcases parted_mem hp hz with ⟨rfl, -⟩ | ⟨f', t', rfl⟩
      · exact ⟨rfl, rfl, rfl, rfl, rfl, rfl, .inl rfl⟩
      · have h1 := part_key (p := p) (f := f') (t := t') (id := i)
        refine ⟨h1.1, h1.2.1, h1.2.2.1, h1.2.2.2.1, h1.2.2.2.2.1, h1.2.2.2.2.2.1, ?_⟩
        rw [h1.2.2.2.2.2.2]
        split
        · rename_i h; exact .inr ⟨h, rfl⟩
        · exact .inl rfl
    obtain ⟨a1, a2, a3, a4, a5, a6, a7⟩ := hz'
    obtain ⟨b1, b2, b3, b4, b5, b6, b7⟩ := h2
    by_cases hpv : p.v = q.v
    · rcases hv with hv | hv
      · have hb7 : (partQ q f t j).id = q.id := by rw [b7, if_neg (by omega)]
        have ha7 : z.id = p.id := by rcases a7 with h | ⟨h, -⟩; exact h; omega
        have h5 := h4 (by omega)
        rw [← h5]
        simp only [kyB, a1, a2, a3, a4, a5, a6, ha7, b1, b2, b3, b4, b5, b6, hb7]
      · have hb7 : (partQ q f t j).id = j := by rw [b7, if_pos hv]
        have hne : z.id ≠ j := by
          rcases a7 with h | ⟨-, h⟩
          · rw [h]; exact h6 (by omega)
          · omega
        have : decide (z.id = (partQ q f t j).id) = false := by rw [hb7]; simpa using hne
        simp only [kyB, this, Bool.and_false]
    · have : decide (z.v = (partQ q f t j).v) = false := by rw [a1, b1]; simpa using hpv
      simp only [kyB, this, Bool.false_and]
theorem parted_two {p q : Pk} {i j : Int} {r s : List Nat} (hp : isWhP p = true) (hq : isWhP q = true) (hv : q.v = 4 ∨ q.v = 6) (h6 : p.v = 6 → p.id ≠ j) (hij : i ≠ j) (h4 : p.v = 4 → kyB p q = false) : Two (partedL p i r) (partedL q j s) :=
  ⟨fun z hz y hy hw => parted_one hp hz hy hw, fun z hz y hy hw => parted_un hp hq hv h6 hij h4 hz hy hw⟩
end Go.Proofs.YtkccpidgeecemaaGreatDoor

namespace Go.Proofs.YtkccpidgeecemaaGreatDoor
set_option linter.unusedVariables false
set_option linter.unusedSimpArgs false
set_option maxRecDepth 20000

/-- A whole packet of the law. -/
structure Whl (p : Pk) : Prop where
  r : rgt2 p = true
  v : p.v = 4 ∨ p.v = 6
  off : p.off = 0
  more : p.more = false
  frag : p.frag = false
  df : p.df = false
  o : p.o = []
  len : p.d.length ≤ 4000
theorem Whl.is {p : Pk} (h : Whl p) : isWhP p = true := by simp [isWhP, h.off, h.more]
theorem Whl.id6 {p : Pk} (h : Whl p) (hv : p.v = 6) : p.id = 0 := by
  have h1 := h.r
  unfold rgt2 at h1
  rw [Bool.or_eq_true] at h1
  rcases h1 with h1 | h1
  · have := ((right_iff p).1 h1).1.v; omega
  · exact (((S6.right_iff p).1 h1).bare h.frag).1
theorem Whl.id4 {p : Pk} (h : Whl p) (hv : p.v = 4) : p.id ≤ 65535 := by
  have h1 := h.r
  unfold rgt2 at h1
  rw [Bool.or_eq_true] at h1
  rcases h1 with h1 | h1
  · exact ((right_iff p).1 h1).1.id
  · have := ((S6.right_iff p).1 h1).v; omega
theorem part_len (p : Pk) (f t : Nat) (id : Int) (ht : t ≤ p.d.length) : (partQ p f t id).d.length = t - f := by
  have : (partQ p f t id).d = (p.d.drop f).take (t - f) := by unfold partQ pieceP; split <;> rfl
  rw [this, List.length_take, List.length_drop]
  omega
theorem part_rgt {p : Pk} {f t : Nat} {id : Int} (h : Whl p) (hft : f < t) (htn : t ≤ p.d.length) (hf8 : f % 8 = 0) (ht8 : t = p.d.length ∨ t % 8 = 0) : rgt2 (partQ p f t id) = true := by
  have hlen := part_len p f t id htn
  have hl := h.len
  unfold rgt2
  rw [Bool.or_eq_true]
  have h1 := h.r
  unfold rgt2 at h1
  rw [Bool.or_eq_true] at h1
  rcases h1 with h1 | h1
  · left
    obtain ⟨k, kv⟩ := (right_iff p).1 h1
    have hv := k.v
    have e : partQ p f t id = pieceP p f t := by unfold partQ; rw [if_neg (by omega)]
    rw [e] at hlen ⊢
    have a1 := k.o0; have a2 := k.reach; have a3 := h.off; have a4 := k.all
    rw [right_iff]
    refine ⟨⟨k.v, k.flow, k.frag, k.id, k.t0, k.t1, k.l0, k.l1, k.r0, k.r1, k.sv, k.sb, k.dv, k.db, ?_, ?_, ?_, fun hm => ?_, fun hm => ?_, fun hm => ?_, ?_, ?_⟩, kv⟩
    · show (0 : Int) ≤ (f : Int); omega
    · show (f : Int) ≤ 65528; omega
    · show (f : Int) % 8 = 0; omega
    · have hm2 : decide (t < p.d.length) = true := hm
      rw [decide_eq_true_eq] at hm2
      rw [hlen]; omega
    · rw [hlen]; omega
    · rw [hlen]; omega
    · rw [hlen]; show (f : Int) + _ ≤ _; omega
    · rw [hlen]; show 20 + p.o.length + (t - f) ≤ 65535; rw [h.o]; simp only [List.length_nil]; omega
  · right
    have k := (S6.right_iff p).1 h1
    have hv := k.v
    have e : partQ p f t id = { pieceP p f t with frag := true, id := id } := by unfold partQ; rw [if_pos (by omega)]
    rw [e] at hlen ⊢
    have hlen : (pieceP p f t).d.length = t - f := hlen
    rw [S6.right_iff]
    refine ⟨k.v, k.df, k.o, k.f0, k.f1, k.t0, k.t1, k.l0, k.l1, k.r0, k.r1, k.r44, k.sv, k.dv, ?_, ?_, ?_, fun hm => ?_, fun hm => ?_, ?_, fun hm => by simp at hm, ?_⟩
    · show (0 : Int) ≤ (f : Int); omega
    · show (f : Int) ≤ 65528; omega
    · show (f : Int) % 8 = 0; omega
    · have hm2 : decide (t < p.d.length) = true := hm
      rw [decide_eq_true_eq] at hm2
      show (pieceP p f t).d.length % 8 = 0
      rw [hlen]; omega
    · show (pieceP p f t).d.length ≠ 0
      rw [hlen]; omega
    · show (f : Int) + ((pieceP p f t).d.length : Int) ≤ _
      rw [hlen]; omega
    · show S6.hofP _ - 40 + (pieceP p f t).d.length ≤ _
      rw [hlen]
      have : S6.hofP { pieceP p f t with frag := true, id := id } = 48 := rfl
      rw [this]; omega
theorem parts_of {p : Pk} {id : Int} : ∀ {l : List Nat}, (∀ c ∈ l, (c = p.d.length ∨ c % 8 = 0) ∧ c ≤ p.d.length ∧ 0 < c) → (∀ c ∈ l.tail, c % 8 = 0) → l.Pairwise (fun a b => b < a) → ∀ {y : Pk}, y ∈ partsTo p id l →
    ∃ f t, y = partQ p f t id ∧ f < t ∧ t ≤ p.d.length ∧ f % 8 = 0 ∧ (t = p.d.length ∨ t % 8 = 0)
  | [], _, _, _, y, h => by simp [partsTo] at h
  | c :: r, h1, h2, h3, y, h => by
    rw [partsTo] at h
    rw [List.pairwise_cons] at h3
    rcases List.mem_append.1 h with h | h
    · refine parts_of (fun e he => h1 e (by simp [he])) (fun e he => h2 e (by simpa using List.mem_of_mem_tail he)) h3.2 h
    · simp at h
      have h4 := h1 c (by simp)
      refine ⟨_, _, h, ?_, h4.2.1, ?_, h4.1⟩
      · cases r with
        | nil => simpa using h4.2.2
        | cons e r => exact h3.1 e (by simp)
      · cases r with
        | nil => rfl
        | cons e r => exact h2 e (by simp)
theorem parted_all {p : Pk} {id : Int} {r : List Nat} {b : Nat} (h : Whl p) (hr : Cps r b p.d.length) : (∀ y ∈ partedL p id r, rgt2 y = true ∧ y.o = []) ∧ partedL p id r ≠ [] := by
  unfold partedL
  by_cases hn : r = []
  · rw [if_pos hn]
    exact ⟨fun y hy => by simp at hy; subst hy; exact ⟨h.r, h.o⟩, by simp⟩
  · rw [if_neg hn]
    have hp : 0 < p.d.length := by
      cases r with
      | nil => exact absurd rfl hn
      | cons c r => have := hr.in' c (by simp); omega
    refine ⟨fun y hy => ?_, ?_⟩
    · obtain ⟨f, t, rfl, h1, h2, h3, h4⟩ := parts_of (fun c hc => by
        rcases List.mem_cons.1 hc with rfl | hc
        · exact ⟨.inl rfl, Nat.le_refl _, hp⟩
        · have := hr.in' c hc; exact ⟨.inr this.1, by omega, this.2.1⟩) (fun c hc => (hr.in' c (by simpa using hc)).1) (List.pairwise_cons.2 ⟨fun c hc => (hr.in' c hc).2.2.1, hr.fall⟩) hy
      refine ⟨part_rgt h h1 h2 h3 h4, ?_⟩
      show (partQ p f t id).o = []
      unfold partQ pieceP
      split <;> exact h.o
    · rw [partsTo]; simp
/-- Another number. -/
theorem whl_id {q : Pk} (h : Whl q) (hv : q.v = 4) {i : Int} (hi : i ≤ 65535) : Whl { q with id := i } := by
  have h1 := h.r
  unfold rgt2 at h1
  rw [Bool.or_eq_true] at h1
  rcases h1 with h1 | h1
  · obtain ⟨k, kv⟩ := (right_iff q).1 h1
    refine ⟨?_, h.v, h.off, h.more, h.frag, h.df, h.o, h.len⟩
    unfold rgt2
    rw [Bool.or_eq_true]
    exact .inl ((right_iff _).2 ⟨⟨k.v, k.flow, k.frag, hi, k.t0, k.t1, k.l0, k.l1, k.r0, k.r1, k.sv, k.sb, k.dv, k.db, k.o0, k.o1, k.o8, k.m8, k.m0, k.f0, k.reach, k.all⟩, kv⟩)
  · have := ((S6.right_iff q).1 h1).v; omega
theorem ky_id {p q : Pk} {i : Int} (hi : p.id ≠ i) : kyB p { q with id := i } = false := by
  have : decide (p.id = i) = false := by simpa using hi
  simp only [kyB, this, Bool.and_false]
theorem ky_ids {p q : Pk} (h : kyB p q = true) : p.v = q.v ∧ p.id = q.id := by
  simp only [kyB, Bool.and_eq_true, decide_eq_true_eq] at h
  exact ⟨h.1, h.2.2.2.2⟩
/-- The lists of two whole packets of unlike keys. -/
theorem whl_two {p q : Pk} {r s : List Nat} (hp : Whl p) (hq : Whl q) (h4 : p.v = 4 → kyB p q = false) : Two (partedL p 5 r) (partedL q 6 s) ∧ Two (partedL q 6 s) (partedL p 5 r) :=
  ⟨parted_two hp.is hq.is hq.v (fun e => by rw [hp.id6 e]; omega) (by omega) h4, parted_two hq.is hp.is hp.v (fun e => by rw [hq.id6 e]; omega) (by omega) (fun e => by
    rcases hp.v with h | h
    · rw [ky_symm]; exact h4 h
    · have : decide (q.v = p.v) = false := by rw [e, h]; decide
      simp only [kyB, this, Bool.false_and])⟩
end Go.Proofs.YtkccpidgeecemaaGreatDoor

namespace Go.Proofs.YtkccpidgeecemaaGreatDoor
open Go.ChangeShapes Go.WideShapes Go.ChangeAt Go.RowKit
set_option linter.unusedVariables false
set_option linter.unusedSimpArgs false
set_option maxRecDepth 100000

/-- A table and where it lies. -/
structure T4 where
  g : Nat
  m : Nat
  o : Value
  cs : List Cel
def T4.fp (T : T4) : List Nat := fpT T.g T.m T.o T.cs
/-- It holds the entries of two keys at most, begun at 1. -/
structure Tw (w : World) (N : Nat) (T : T4) (a b : Option Es) : Prop where
  tab : ∃ t, (t = 1 ∨ (t = 0 ∧ T.cs = [])) ∧ Tab w T.g T.m T.o wideQ t T.cs
  new : ∀ z ∈ T.fp, N ≤ z
  mix : Mix (T.cs.map (·.s)) a b
section
variable {w w' : World} {N : Nat} {T : T4} {a b : Option Es}
theorem Tw.away {S : List Nat} (h : Tw w N T a b) (hw : Away S w w') (hS : ∀ z ∈ T.fp, z ∉ S) : Tw w' N T a b := by
  obtain ⟨t, h1, h2⟩ := h.tab
  exact ⟨⟨t, h1, h2.away hw hS⟩, h.new, h.mix⟩
theorem Tw.on (h : Tw w N T a b) (hw : Away [] w w') : Tw w' N T a b := h.away hw (by simp)
theorem Tw.lt (h : Tw w N T a b) : ∀ z ∈ T.fp, z < w.heap.size := by
  obtain ⟨t, h1, h2⟩ := h.tab
  exact h2.lt
theorem Tw.any (h : Tw w N T a b) : ∃ t, Tab w T.g T.m T.o wideQ t T.cs := by
  obtain ⟨t, h1, h2⟩ := h.tab
  exact ⟨t, h2⟩
/-- What Put tells. -/
def TputO (w : World) (N : Nat) (T : T4) (b : Option Es) (r : Int × List Pk × Option Es) (E : Ending) (w' : World) : Prop :=
  ∃ wa wc la lc ga gc xs T', E = .returned (.tuple #[.agg (csTo r.1 (.slice wa xs.length wc) (.slice la 0 lc) (.slice ga 0 gc)), .int .i64 0]) ∧ Cuts w' w.heap.size (.slice wa xs.length wc) xs ∧ xs.map X.p = r.2.1 ∧ xs.length ≤ 1 ∧ T'.g = T.g ∧
    Tw w' N T' r.2.2 b ∧ (∀ z ∈ T'.fp, z ∈ T.fp ∨ w.heap.size ≤ z) ∧ Away T.fp w w'
theorem apN_len (a : Option Es) (p : Pk) : (apN a p).2.1.length ≤ 1 := by
  unfold apN
  split
  · simp
  · split
    · simp
    · split <;> simp
theorem Tw.put (h : Tw w N T a b) (hN : 0 < N) (hg : Glob w) (hs : ∀ s, a = some s ∨ b = some s → Hs s ∧ s.tb = 1) {p : Pk} {po pd : Value} (hk : Pkt w p po pd) (ho : p.o = []) (hd : ∀ k, pd.ownBlock = some k → k ∉ T.fp) (hr : rgt2 p = true)
    (ha : ∀ s, a = some s → isWhP p = false → kyB p s.k = true) (hb : ∀ s, b = some s → kyB p s.k = false) :
    Calls Tryz.prog 10 #[.pointer (some ⟨T.g, 0, none⟩), .agg (csP p po pd), .int .i64 1] w (TputO w N T b (apN a p)) := by
  obtain ⟨t, ht, htab⟩ := h.tab
  have htb : ∀ c ∈ T.cs, c.s.tb = 1 := fun c hc => (hs c.s ((mix_mem h.mix c.s).1 (List.mem_map_of_mem hc))).2
  have hlen : T.cs.length ≤ 2 := by simpa using mix_len h.mix
  have hin : PutIn w T.g T.m T.o wideQ t T.cs p po pd := ⟨htab, hg, hk, ⟨fun e => absurd ho e, fun _ k hk => hd k hk⟩, fun hm => by have := h.new 0 hm; omega, fun c hc => by
    have h1 := htb c hc
    rcases ht with rfl | ⟨rfl, e⟩
    · omega
    · rw [e] at hc; simp at hc, by rcases ht with rfl | ⟨rfl, -⟩ <;> omega, ⟨by decide, by decide⟩, by omega⟩
  refine (tput_c hin 1).mono ?_
  rintro E w' (⟨hx, -⟩ | ⟨-, n', wv, lv, gv, ov', xs, ys, ks, cs', rfl, hcw, hcl, hgk, hgn, hys, htab', hres, hfp, haw⟩)
  · rcases hx with h1 | h1 | h1
    · rw [hr] at h1; simp at h1
    · rcases ht with rfl | ⟨rfl, -⟩ <;> omega
    · omega
  · have hl : ∀ c ∈ T.cs, lateB wideQ 1 c = false := fun c hc => by
      unfold lateB
      rw [htb c hc]; decide
    have e1 : T.cs.takeWhile (lateB wideQ 1) = [] := by
      cases hcs : T.cs with
      | nil => rfl
      | cons c r => rw [List.takeWhile_cons, hl c (by rw [hcs]; simp)]; rfl
    have e2 : T.cs.dropWhile (lateB wideQ 1) = T.cs := by
      cases hcs : T.cs with
      | nil => rfl
      | cons c r => rw [List.dropWhile_cons, hl c (by rw [hcs]; simp)]; rfl
    rw [e1] at hys
    rw [e2] at hres
    obtain ⟨rfl, hwh, rfl, hmix⟩ := res_mix h.mix ha hb (fun s e => (hs s e).1) hk.wf hres
    have hy0 : ys = [] := by
      have : (ys.map X.p).length = 0 := by rw [hys]; rfl
      rw [List.length_map] at this
      exact List.eq_nil_of_length_eq_zero this
    subst hy0
    have hxl : xs.length ≤ 1 := by
      have h1 := apN_len a p
      rw [← hwh, List.length_map] at h1
      exact h1
    obtain ⟨a1, c1, rfl, -⟩ := hcw.pks (by omega)
    obtain ⟨a2, c2, rfl, -⟩ := hcl.pks (by simp)
    obtain ⟨a3, c3, rfl⟩ : ∃ a3 c3, gv = .slice a3 0 c3 := by
      rcases hgk.shp with ⟨e, -⟩ | ⟨g, cap, e⟩
      · exact ⟨_, _, e⟩
      · exact ⟨_, _, e⟩
    refine ⟨a1, c1, a2, c2, a3, c3, xs, ⟨T.g, T.m, ov', cs'⟩, rfl, hcw, hwh, hxl, rfl, ⟨⟨1, .inl rfl, htab'⟩, fun z hz => ?_, hmix⟩, hfp, haw⟩
    rcases hfp z hz with h1 | h1
    · exact h.new z h1
    · have h2 := h.new T.g (mem_fpT.2 (.inl rfl))
      have h3 := h.lt T.g (mem_fpT.2 (.inl rfl))
      omega
/-- Three of them: one for both keys, one for each. -/
structure Tri (w : World) (N : Nat) (B X Y : T4) (a b : Option Es) : Prop where
  both : Tw w N B a b
  x : Tw w N X a none
  y : Tw w N Y b none
  bx : ∀ z ∈ B.fp, z ∉ X.fp
  by' : ∀ z ∈ B.fp, z ∉ Y.fp
  xy : ∀ z ∈ X.fp, z ∉ Y.fp
theorem Tw.symm (h : Tw w N T a b) : Tw w N T b a := ⟨h.tab, h.new, h.mix.symm⟩
theorem Tri.on {B X Y : T4} (h : Tri w N B X Y a b) (hw : Away [] w w') : Tri w' N B X Y a b := ⟨h.both.on hw, h.x.on hw, h.y.on hw, h.bx, h.by', h.xy⟩
theorem Tri.symm {B X Y : T4} (h : Tri w N B X Y a b) : Tri w N B Y X b a := ⟨h.both.symm, h.y, h.x, h.by', h.bx, fun z h1 h2 => h.xy z h2 h1⟩
theorem holes_t (h : Tw w N T a b) (k : Pk) (hk : Wf k) : Calls Tryz.prog 19 #[.pointer (some ⟨T.g, 0, none⟩), .agg (csK k)] w fun E w' => E = .returned (.int .i64 (holesOf T.cs k)) ∧ Away [] w w' := by
  obtain ⟨t, h1⟩ := h.any
  exact tholes_c h1 k hk
theorem pois_t (h : Tw w N T a b) (k : Pk) (hk : Wf k) : Calls Tryz.prog 23 #[.pointer (some ⟨T.g, 0, none⟩), .agg (csK k)] w fun E w' => E = .returned (.bool (poisOf T.cs k)) ∧ Away [] w w' := by
  obtain ⟨t, h1⟩ := h.any
  exact tpois_c h1 k hk
theorem bytes_t (h : Tw w N T a b) : Calls Tryz.prog 16 #[.pointer (some ⟨T.g, 0, none⟩)] w fun E w' => E = .returned (.int .i64 (sumC T.cs)) ∧ Away [] w w' := by
  obtain ⟨t, h1⟩ := h.any
  exact tbytes_c h1
theorem keys_t (h : Tw w N T a b) : Calls Tryz.prog 14 #[.pointer (some ⟨T.g, 0, none⟩)] w fun E w' => ∃ ka kc, E = .returned (.slice ka T.cs.length kc) ∧ Away [] w w' := by
  obtain ⟨t, h1⟩ := h.any
  refine (keys_c h1).mono ?_
  rintro E w' ⟨v, rfl, hl, -, haw⟩
  rcases hl.shp with ⟨rfl, e⟩ | ⟨g, cap, rfl⟩
  · have e2 : T.cs.length = 0 := by rw [← List.length_map (f := fun c : Cel => c.s.k), e]; rfl
    exact ⟨none, 0, by rw [e2], haw⟩
  · exact ⟨_, cap, by rw [List.length_map], haw⟩
theorem new_t (w : World) (N : Nat) (hN : N ≤ w.heap.size) : Calls Tryz.prog 9 #[valQ wideQ] w fun E w' => ∃ g m, E = .returned (.tuple #[.pointer (some ⟨g, 0, none⟩), .int .i64 0]) ∧ Tw w' N ⟨g, m, .slice none 0 0, []⟩ none none ∧ (∀ z ∈ (⟨g, m, .slice none 0 0, []⟩ : T4).fp, w.heap.size ≤ z) ∧ Away [] w w' := by
  refine (tnew_c w wideQ).mono ?_
  rintro E w' (⟨h1, -⟩ | ⟨-, gt, mb, rfl, htab, hgt, hmb, haw⟩)
  · exact absurd h1 (by decide)
  · have hf : ∀ z ∈ (⟨gt, mb, .slice none 0 0, []⟩ : T4).fp, w.heap.size ≤ z := fun z hz => by
      rcases mem_fpT.1 hz with rfl | rfl | h1 | ⟨c, hc, -⟩
      · exact hgt
      · exact hmb
      · simp [Value.ownBlock] at h1
      · simp at hc
    exact ⟨gt, mb, rfl, ⟨⟨0, .inr ⟨rfl, rfl⟩, htab⟩, fun z hz => Nat.le_trans hN (hf z hz), .inl rfl⟩, hf, haw⟩
end
end Go.Proofs.YtkccpidgeecemaaGreatDoor

namespace Go.Proofs.YtkccpidgeecemaaGreatDoor
open Go.ChangeShapes Go.WideShapes Go.ChangeAt Go.RowKit
set_option linter.unusedVariables false
set_option linter.unusedSimpArgs false
set_option maxRecDepth 100000

/-- A told record: steps that may come in any order. -/
theorem step_alloc44 {ops : Array Oper} {o : Oper} {a : Act} {w : World} {K : Act → World → Prop} {Q : Exit → Act → World → Prop} {E : Prop} (hg : o.guard = none) (ho : o.op = .alloc 44)
    (hK : ∀ g w1, w.heap.size ≤ g → BoxT w1 g 0 nilV nilV nilV → Away [] w w1 → K (a.put o.dst (.pointer (some ⟨g, 0, none⟩))) w1) : if Region.wanted o (yielded ops a.tmps) = true then Oper.wp Tryz.prog o a w K Q else E := by
  have hw : Region.wanted o (yielded ops a.tmps) = true := by simp [Region.wanted, hg]
  rw [if_pos hw]
  unfold Oper.wp execOp
  simp only [ho, Instr.alloc, newVar, newRow, Sem.run_bind, zero33 w, run_newObj_alloc, Sem.run_pure, Result.andThen_ok]
  exact hK w.heap.size _ (Nat.le_refl _) (block_new _ _) ((Away.refl [] w).alloc _)
theorem step_store44 {ops : Array Oper} {o : Oper} {a : Act} {w : World} {K : Act → World → Prop} {Q : Exit → Act → World → Prop} {E : Prop} (hg : o.guard = none) (x y : Operand) (ho : o.op = .store 44 x y)
    (g : Nat) (hx : a.eval x = .pointer (some ⟨g, 0, none⟩)) (n : Int) (wv lv gv : Value) (hy : a.eval y = .agg (csTo n wv lv gv)) (n' : Int) (wv' lv' gv' : Value) (hb : BoxT w g n' wv' lv' gv') (h1 : wv.oneCell' = true) (h2 : lv.oneCell' = true) (h3 : gv.oneCell' = true)
    (hK : ∀ w1, BoxT w1 g n wv lv gv → Away [g] w w1 → K (a.put o.dst undef) w1) : if Region.wanted o (yielded ops a.tmps) = true then Oper.wp Tryz.prog o a w K Q else E := by
  have hw : Region.wanted o (yielded ops a.tmps) = true := by simp [Region.wanted, hg]
  rw [if_pos hw]
  exact wp_store_row 44 x y ho g (csTo n wv lv gv) hx hy 44 (csTo n' wv' lv' gv') hb (by exact info33) (by rfl) (csTo_one h1 h2 h3) (hK _ (by
    unfold BoxT at hb ⊢; simp [World.setRow, Array.getElem?_modify, hb]) ((Away.refl [g] w).setRow (.inl (by simp)) _))
theorem BoxT.lt {w : World} {g : Nat} {n : Int} {a b c : Value} (h : BoxT w g n a b c) : g < w.heap.size := lt_of_block h
theorem BoxT.keep {w w' : World} {S : List Nat} {g : Nat} {n : Int} {a b c : Value} (h : BoxT w g n a b c) (hw : Away S w w') (hg : g ∉ S) : BoxT w' g n a b c := hw.keep hg h
/-- One side of the three tables. -/
structure Sd (wN : World) (gB gP gQ g15 s : Nat) (l m : List Pk) (B P Q : T4) (aB aP b : Option Es) (w : World) : Prop where
  eB : B.g = gB
  eP : P.g = gP
  eQ : Q.g = gQ
  both : Tw w wN.heap.size B aB b
  x : Tw w wN.heap.size P aP none
  y : Tw w wN.heap.size Q b none
  bx : ∀ z ∈ B.fp, z ∉ P.fp
  by' : ∀ z ∈ B.fp, z ∉ Q.fp
  xy : ∀ z ∈ P.fp, z ∉ Q.fp
  sB : Si l aB
  sP : Si l aP
  sb : Si m b
  fB : g15 ∉ B.fp
  fP : g15 ∉ P.fp
  fQ : g15 ∉ Q.fp
  lt : g15 < w.heap.size
  new : wN.heap.size ≤ g15
  aw : Away [] wN w
  cP : w.cell? ⟨g15, s, none⟩ = some (.pointer (some ⟨gP, 0, none⟩))
  cQ : w.cell? ⟨g15, 1 - s, none⟩ = some (.pointer (some ⟨gQ, 0, none⟩))
section
variable {wN w w' : World} {gB gP gQ g15 s : Nat} {l m : List Pk} {B P Q : T4} {aB aP b : Option Es} {p : Pk}
theorem Sd.on (h : Sd wN gB gP gQ g15 s l m B P Q aB aP b w) (hw : Away [] w w') : Sd wN gB gP gQ g15 s l m B P Q aB aP b w' :=
  ⟨h.eB, h.eP, h.eQ, h.both.on hw, h.x.on hw, h.y.on hw, h.bx, h.by', h.xy, h.sB, h.sP, h.sb, h.fB, h.fP, h.fQ, Nat.lt_of_lt_of_le h.lt hw.size, h.new, h.aw.trans hw, hw.cell (by simp) h.cP, hw.cell (by simp) h.cQ⟩
theorem Sd.other (h : Sd wN gB gP gQ g15 s l m B P Q aB aP b w) {g : Nat} (hw : Away [g] w w') (hg : wN.heap.size ≤ g) (h1 : g ∉ B.fp) (h2 : g ∉ P.fp) (h3 : g ∉ Q.fp) (h4 : g ≠ g15) : Sd wN gB gP gQ g15 s l m B P Q aB aP b w' :=
  ⟨h.eB, h.eP, h.eQ, h.both.away hw (fun z hz e => by simp at e; subst e; exact h1 hz), h.x.away hw (fun z hz e => by simp at e; subst e; exact h2 hz), h.y.away hw (fun z hz e => by simp at e; subst e; exact h3 hz), h.bx, h.by', h.xy, h.sB, h.sP, h.sb, h.fB, h.fP, h.fQ, Nat.lt_of_lt_of_le h.lt hw.size, h.new,
    h.aw.next hw (fun z hz => by simp at hz; subst hz; exact .inr hg), hw.cell (by simpa using fun e => h4 e.symm) h.cP, hw.cell (by simpa using fun e => h4 e.symm) h.cQ⟩
theorem Sd.putB (h : Sd wN gB gP gQ g15 s l m B P Q aB aP b w) {T : T4} {a' : Option Es} (hg : T.g = B.g) (ht : Tw w' wN.heap.size T a' b) (hs : Si l a') (hf : ∀ z ∈ T.fp, z ∈ B.fp ∨ w.heap.size ≤ z) (hw : Away B.fp w w') : Sd wN gB gP gQ g15 s l m T P Q a' aP b w' :=
  ⟨hg.trans h.eB, h.eP, h.eQ, ht, h.x.away hw (fun z h1 h2 => h.bx z h2 h1), h.y.away hw (fun z h1 h2 => h.by' z h2 h1),
    fun z hz hz2 => by
      rcases hf z hz with h1 | h1
      · exact h.bx z h1 hz2
      · have := h.x.lt z hz2; omega,
    fun z hz hz2 => by
      rcases hf z hz with h1 | h1
      · exact h.by' z h1 hz2
      · have := h.y.lt z hz2; omega, h.xy, hs, h.sP, h.sb,
    fun hm => by
      rcases hf _ hm with h1 | h1
      · exact h.fB h1
      · have := h.lt; omega, h.fP, h.fQ, Nat.lt_of_lt_of_le h.lt hw.size, h.new, h.aw.next hw (fun z hz => .inr (h.both.new z hz)), hw.cell h.fB h.cP, hw.cell h.fB h.cQ⟩
theorem Sd.putP (h : Sd wN gB gP gQ g15 s l m B P Q aB aP b w) {T : T4} {a' : Option Es} (hg : T.g = P.g) (ht : Tw w' wN.heap.size T a' none) (hs : Si l a') (hf : ∀ z ∈ T.fp, z ∈ P.fp ∨ w.heap.size ≤ z) (hw : Away P.fp w w') : Sd wN gB gP gQ g15 s l m B T Q aB a' b w' :=
  ⟨h.eB, hg.trans h.eP, h.eQ, h.both.away hw (fun z h1 h2 => h.bx z h1 h2), ht, h.y.away hw (fun z h1 h2 => h.xy z h2 h1),
    fun z hz hz2 => by
      rcases hf z hz2 with h1 | h1
      · exact h.bx z hz h1
      · have := h.both.lt z hz; omega, h.by',
    fun z hz hz2 => by
      rcases hf z hz with h1 | h1
      · exact h.xy z h1 hz2
      · have := h.y.lt z hz2; omega, h.sB, hs, h.sb, h.fB,
    fun hm => by
      rcases hf _ hm with h1 | h1
      · exact h.fP h1
      · have := h.lt; omega, h.fQ, Nat.lt_of_lt_of_le h.lt hw.size, h.new, h.aw.next hw (fun z hz => .inr (h.x.new z hz)), hw.cell h.fP h.cP, hw.cell h.fP h.cQ⟩
theorem Sd.callB (h : Sd wN gB gP gQ g15 s l m B P Q aB aP b w) (hN : 0 < wN.heap.size) (hg : Glob w) (ht : Two l m) {po pd : Value} (hk : Pkt w p po pd) (hp : p ∈ l) (ho : p.o = []) (hd : ∀ k, pd.ownBlock = some k → k ∉ B.fp) (hr : rgt2 p = true) :
    Calls Tryz.prog 10 #[.pointer (some ⟨gB, 0, none⟩), .agg (csP p po pd), .int .i64 1] w (TputO w wN.heap.size B b (apN aB p)) := by
  rw [← h.eB]
  exact h.both.put hN hg (fun t e => e.elim (fun e => ⟨h.sB.hs t e, h.sB.tb t e⟩) (fun e => ⟨h.sb.hs t e, h.sb.tb t e⟩)) hk ho hd hr (fun t e _ => ht.one p hp _ (h.sB.k t e).1 (h.sB.k t e).2) (fun t e => ht.un p hp _ (h.sb.k t e).1 (h.sb.k t e).2)
theorem Sd.callP (h : Sd wN gB gP gQ g15 s l m B P Q aB aP b w) (hN : 0 < wN.heap.size) (hg : Glob w) (ht : Two l m) {po pd : Value} (hk : Pkt w p po pd) (hp : p ∈ l) (ho : p.o = []) (hd : ∀ k, pd.ownBlock = some k → k ∉ P.fp) (hr : rgt2 p = true) :
    Calls Tryz.prog 10 #[.pointer (some ⟨gP, 0, none⟩), .agg (csP p po pd), .int .i64 1] w (TputO w wN.heap.size P none (apN aP p)) := by
  rw [← h.eP]
  exact h.x.put hN hg (fun t e => e.elim (fun e => ⟨h.sP.hs t e, h.sP.tb t e⟩) (fun e => by simp at e)) hk ho hd hr (fun t e _ => ht.one p hp _ (h.sP.k t e).1 (h.sP.k t e).2) (by simp)
theorem sum_small {cs : List Cel} {a : Option Es} (hm : Mix (cs.map (·.s)) a none) (hs : Si l a) : 0 ≤ sumC cs ∧ sumC cs ≤ 65535 ∧ cs.length ≤ 1 := by
  have h1 := hm.one
  have e : sumC cs = ((cs.map (·.s)).map (·.h)).sum := by unfold sumC; rw [List.map_map]; rfl
  have el : cs.length = (cs.map (·.s)).length := by rw [List.length_map]
  rw [e, el, h1]
  cases ha : a with
  | none => simp
  | some s =>
    have := (hs.hs s ha).1
    simp
    omega
/-- What the law asks behind each Put. -/
theorem Sd.asks (h : Sd wN gB gP gQ g15 s l m B P Q aP aP b w) (ht : Two l m) (hp : p ∈ l) : holesOf B.cs p = holesOf P.cs p ∧ poisOf B.cs p = poisOf P.cs p ∧ sumC B.cs = sumC P.cs + sumC Q.cs ∧ B.cs.length = P.cs.length + Q.cs.length ∧ (0 ≤ sumC P.cs ∧ sumC P.cs ≤ 65535 ∧ P.cs.length ≤ 1) ∧ (0 ≤ sumC Q.cs ∧ sumC Q.cs ≤ 65535 ∧ Q.cs.length ≤ 1) := by
  have h1 := of_mix h.both.mix h.x.mix (fun t e => ht.one p hp _ (h.sP.k t e).1 (h.sP.k t e).2) (fun t e => ht.un p hp _ (h.sb.k t e).1 (h.sb.k t e).2)
  have h2 := sum_mix h.both.mix h.x.mix h.y.mix
  exact ⟨h1.1, h1.2, h2.1, h2.2, sum_small h.x.mix h.sP, sum_small h.y.mix h.sb⟩
/-- The other side. -/
theorem Sd.flip (h : Sd wN gB gP gQ g15 s l m B P Q aP aP b w) (hs : s ≤ 1) : Sd wN gB gQ gP g15 (1 - s) m l B Q P b b aP w :=
  ⟨h.eB, h.eQ, h.eP, h.both.symm, h.y, h.x, h.by', h.bx, fun z h1 h2 => h.xy z h2 h1, h.sb, h.sb, h.sB, h.fB, h.fQ, h.fP, h.lt, h.new, h.aw, h.cQ, by rw [show 1 - (1 - s) = s from by omega]; exact h.cP⟩
end
end Go.Proofs.YtkccpidgeecemaaGreatDoor
