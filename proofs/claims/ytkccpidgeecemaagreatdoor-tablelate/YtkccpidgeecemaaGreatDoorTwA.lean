/-
  What parted tells are right packets. Plain data.
-/
import Derived.Test.YtkccpidgeecemaaGreatDoorTwB
namespace Go.Proofs.YtkccpidgeecemaaGreatDoor
set_option linter.unusedVariables false
set_option linter.unusedSimpArgs false
set_option maxRecDepth 20000
def Hs (s : Es) : Prop := (0 ≤ s.h ∧ s.h ≤ 65535) ∧ (s.bad = false → ∃ T, Iv s T)
theorem hs_new (k : Pk) (t : Int) : Hs (newS k t) := ⟨by simp [newS], fun _ => ⟨_, iv_new k t⟩⟩
theorem hs_pois (s : Es) : Hs (poisS s) := ⟨by simp [poisS], fun h => by simp [poisS] at h⟩
theorem hs_put {s : Es} {p : Pk} (h : Hs s) (hw : Wf p) : Hs (putS s p).2 := by
  refine ⟨?_, put_iv h.2 hw⟩
  by_cases hb : (putS s p).2.bad = false
  · obtain ⟨T, hT⟩ := put_iv h.2 hw hb
    have h1 := hT.cnt
    have h2 := cnt_le T 65535
    omega
  · unfold putS at hb ⊢
    by_cases h1 : ownB s p = false
    · rw [if_pos h1]; exact h.1
    · rw [if_neg h1] at hb ⊢
      by_cases h2 : s.bad = true
      · rw [if_pos h2]; exact h.1
      · rw [if_neg h2] at hb ⊢
        by_cases h3 : (takeS s p).1 = 4
        · rw [if_pos h3]; exact (hs_pois s).1
        · rw [if_neg h3] at hb
          rw [(take_bad s p).1] at hb
          exact absurd (by simpa using hb) h2
def apN (a : Option Es) (p : Pk) : Int × List Pk × Option Es :=
  if isWhP p = true then (0, [dgP p], a)
  else if (putS (a.getD (newS p 1)) p).1 = 6 then (6, [(wholeP (putS (a.getD (newS p 1)) p).2).1], none)
  else if 8192 < holesN (putS (a.getD (newS p 1)) p).2 then (4, [], some (poisS (putS (a.getD (newS p 1)) p).2))
  else ((putS (a.getD (newS p 1)) p).1, [], some (putS (a.getD (newS p 1)) p).2)
def Mix (l : List Es) (a b : Option Es) : Prop := l = a.toList ++ b.toList ∨ l = b.toList ++ a.toList
theorem Mix.symm {l : List Es} {a b : Option Es} (h : Mix l a b) : Mix l b a := h.elim .inr .inl
theorem mix_one {l : List Es} {a : Option Es} (h : l = a.toList) : Mix l a none := .inl (by simpa using h)
theorem Mix.one {l : List Es} {a : Option Es} (h : Mix l a none) : l = a.toList := by rcases h with h | h <;> simpa using h
theorem push_no {cs : List Cel} (hl : cs.length ≤ 2) (hh : ∀ c ∈ cs, 0 ≤ c.s.h ∧ c.s.h ≤ 65535) : pushN wideQ cs = 0 := by
  cases cs with
  | nil => rfl
  | cons c r =>
    rw [pushN, if_neg]
    unfold overB
    rw [Bool.or_eq_true, decide_eq_true_eq, decide_eq_true_eq]
    have h1 := hh c (by simp)
    have h2 : 0 ≤ sumC r ∧ sumC r ≤ 65535 := by
      cases r with
      | nil => simp [sumC]
      | cons d r =>
        have h3 := hh d (by simp)
        cases r with
        | nil => simp [sumC]; try omega
        | cons e r => simp at hl
    rw [sumC_cons]
    simp only [wideQ] at *
    simp at hl
    show ¬ ((64 : Int) < _ ∨ (1048576 : Int) < _)
    simp only [List.length_cons]
    omega
theorem mix_len {l : List Es} {a b : Option Es} (h : Mix l a b) : l.length ≤ 2 := by
  rcases h with rfl | rfl <;> cases a <;> cases b <;> simp
theorem mix_mem {l : List Es} {a b : Option Es} (h : Mix l a b) (s : Es) : s ∈ l ↔ a = some s ∨ b = some s := by
  rcases h with rfl | rfl <;> simp [List.mem_append, or_comm]
theorem erase_map {α β : Type} (f : α → β) : ∀ (l : List α) (i : Nat), (l.eraseIdx i).map f = (l.map f).eraseIdx i
  | [], _ => by simp
  | a :: r, 0 => by simp
  | a :: r, i + 1 => by simp [erase_map f r i]
theorem mix_at {l : List Es} {a b : Option Es} (h : Mix l a b) {s : Es} (ha : a = some s) (hb : b ≠ some s) {i : Nat} (hi : l[i]? = some s) (x : Es) :
    Mix (l.set i x) (some x) b ∧ Mix ((l.set i x).eraseIdx i) none b := by
  subst ha
  rcases h with rfl | rfl
  · cases b with
    | none =>
      match i with
      | 0 => exact ⟨.inl rfl, .inl rfl⟩
      | i + 1 => simp at hi
    | some t =>
      match i with
      | 0 => exact ⟨.inl rfl, .inl rfl⟩
      | 1 => simp at hi; subst hi; simp at hb
      | i + 2 => simp at hi
  · cases b with
    | none =>
      match i with
      | 0 => exact ⟨.inr rfl, .inr rfl⟩
      | i + 1 => simp at hi
    | some t =>
      match i with
      | 0 => simp at hi; subst hi; simp at hb
      | 1 => exact ⟨.inr rfl, .inr rfl⟩
      | i + 2 => simp at hi
theorem mix_new {l : List Es} {b : Option Es} (h : Mix l none b) (s x : Es) : Mix ((l ++ [s]).set l.length x) (some x) b ∧ Mix (((l ++ [s]).set l.length x).eraseIdx l.length) none b := by
  have e : l = b.toList := by rcases h with rfl | rfl <;> simp
  subst e
  cases b with
  | none => exact ⟨.inl rfl, .inl rfl⟩
  | some t => exact ⟨.inr rfl, .inr rfl⟩
theorem res_mix {cs cs' : List Cel} {a b : Option Es} {p : Pk} {n : Int} {wh ks : List Pk} (hm : Mix (cs.map (·.s)) a b) (ha : ∀ s, a = some s → isWhP p = false → kyB p s.k = true) (hb : ∀ s, b = some s → kyB p s.k = false)
    (hs : ∀ s, a = some s ∨ b = some s → Hs s) (hw : Wf p) (h : Res wideQ 1 cs p n wh ks cs') :
    n = (apN a p).1 ∧ wh = (apN a p).2.1 ∧ ks = [] ∧ Mix (cs'.map (·.s)) (apN a p).2.2 b := by
  rcases h with ⟨h1, rfl, rfl, rfl, rfl⟩ | ⟨h1, cs1, i, c, fp1, fp2, hc, ht⟩
  · unfold apN
    rw [if_pos h1]
    exact ⟨rfl, rfl, rfl, hm⟩
  · have key : c.s = a.getD (newS p 1) ∧ Hs c.s ∧ cs1.length ≤ 2 ∧ (∀ x ∈ cs1, Hs x.s) ∧ ∀ (x : Es) (g : Nat) (fp : List Nat), Mix ((cs1.set i ⟨x, g, fp⟩).map (·.s)) (some x) b ∧ Mix (((cs1.set i ⟨x, g, fp⟩).eraseIdx i).map (·.s)) none b := by
      have hl : cs.length ≤ 2 := by simpa using mix_len hm
      have hall : ∀ x ∈ cs, Hs x.s := fun x hx => hs _ ((mix_mem hm x.s).1 (List.mem_map_of_mem hx))
      rcases hc with ⟨rfl, h2, h3⟩ | ⟨h2, g, fp, rfl, rfl, rfl⟩
      · have h4 : (cs1.map (·.s))[i]? = some c.s := by rw [List.getElem?_map, h2]; rfl
        have h5 := (mix_mem hm c.s).1 (List.mem_of_getElem? h4)
        have h6 : b ≠ some c.s := fun e => by rw [hb _ e] at h3; simp at h3
        have h7 : a = some c.s := h5.resolve_right h6
        refine ⟨by rw [h7]; rfl, hall c (List.mem_of_getElem? h2), hl, hall, fun x g fp => ?_⟩
        have h8 := mix_at hm h7 h6 h4 x
        rw [show (cs1.set i ⟨x, g, fp⟩).map (·.s) = (cs1.map (·.s)).set i x from by rw [List.map_set], ]
        rw [show ((cs1.set i ⟨x, g, fp⟩).eraseIdx i).map (·.s) = ((cs1.map (·.s)).set i x).eraseIdx i from by rw [erase_map, List.map_set]]
        exact h8
      · have h3 : a = none := by
          cases ea : a with
          | none => rfl
          | some s =>
            have h4 := (mix_mem hm s).2 (.inl ea)
            obtain ⟨d, hd, hds⟩ := List.mem_map.1 h4
            have h5 := h2 d hd
            rw [hds, ha s ea h1] at h5
            simp at h5
        subst h3
        have hl1 : cs.length ≤ 1 := by
          have e : cs.map (·.s) = b.toList := by rcases hm with e | e <;> simpa using e
          have := congrArg List.length e
          rw [List.length_map] at this
          have h2 : b.toList.length ≤ 1 := by cases b <;> simp
          omega
        refine ⟨rfl, hs_new p 1, by simp; omega, fun x hx => ?_, fun x g' fp' => ?_⟩
        · rcases List.mem_append.1 hx with hx | hx
          · exact hall x hx
          · simp at hx; subst hx; exact hs_new p 1
        · have h8 := mix_new hm (newS p 1) x
          have e2 : ((cs ++ [(⟨newS p 1, g, fp⟩ : Cel)]).set cs.length ⟨x, g', fp'⟩).map (·.s) = ((cs.map (·.s)) ++ [newS p 1]).set (cs.map (·.s)).length x := by rw [List.map_set, List.map_append, List.length_map]; rfl
          rw [erase_map, e2]
          rw [List.length_map] at h8 ⊢
          exact h8
    obtain ⟨k1, k2, k3, k4, k5⟩ := key
    have hno : ∀ x g fp, Hs x → pushN wideQ (cs1.set i ⟨x, g, fp⟩) = 0 := fun x g fp hx => push_no (by rw [List.length_set]; exact k3) (fun d hd => by
      rcases List.mem_or_eq_of_mem_set hd with h2 | rfl
      · exact (k4 d h2).1
      · exact hx.1)
    unfold takeC at ht
    unfold apN
    rw [if_neg (by rw [h1]; simp), ← k1]
    have hp := hs_put k2 hw
    by_cases h6 : (putS c.s p).1 = 6
    · rw [if_pos h6] at ht ⊢
      injection ht with t1 t2 t3 t4
      exact ⟨t1.symm, t2.symm, t3.symm, by rw [← t4]; exact (k5 _ _ _).2⟩
    · rw [if_neg h6] at ht ⊢
      by_cases h7 : wideQ.h < holesN (putS c.s p).2
      · rw [if_pos h7] at ht
        rw [if_pos (show 8192 < holesN (putS c.s p).2 from h7)]
        rw [hno _ _ _ (hs_pois _)] at ht
        injection ht with t1 t2 t3 t4
        exact ⟨t1.symm, t2.symm, by rw [← t3]; rfl, by rw [← t4, List.drop_zero]; exact (k5 _ _ _).1⟩
      · rw [if_neg h7] at ht
        rw [if_neg (show ¬ 8192 < holesN (putS c.s p).2 from h7)]
        rw [hno _ _ _ hp] at ht
        injection ht with t1 t2 t3 t4
        exact ⟨t1.symm, t2.symm, by rw [← t3]; rfl, by rw [← t4, List.drop_zero]; exact (k5 _ _ _).1⟩
structure Si (l : List Pk) (a : Option Es) : Prop where
  hs : ∀ s, a = some s → Hs s
  k : ∀ s, a = some s → s.k ∈ l ∧ isWhP s.k = false
  tb : ∀ s, a = some s → s.tb = 1
theorem si_none (l : List Pk) : Si l none := ⟨by simp, by simp, by simp⟩
theorem Si.put {l : List Pk} {a : Option Es} (h : Si l a) {p : Pk} (hp : p ∈ l) (hw : Wf p) : Si l (apN a p).2.2 := by
  have h0 : isWhP p = false → Hs (a.getD (newS p 1)) ∧ ((a.getD (newS p 1)).k ∈ l ∧ isWhP (a.getD (newS p 1)).k = false) ∧ (a.getD (newS p 1)).tb = 1 := fun hn => by
    cases ea : a with
    | none => exact ⟨hs_new p 1, ⟨hp, hn⟩, rfl⟩
    | some s => exact ⟨h.hs s ea, h.k s ea, h.tb s ea⟩
  have key : ∀ (s x : Es), Hs x → x.k = s.k → x.tb = s.tb → s.k ∈ l ∧ isWhP s.k = false → s.tb = 1 → Si l (some x) := fun s x h1 h2 h3 h4 h5 =>
    ⟨fun y e => by injection e with e; rw [← e]; exact h1, fun y e => by injection e with e; rw [← e, h2]; exact h4, fun y e => by injection e with e; rw [← e, h3]; exact h5⟩
  unfold apN
  split
  · exact h
  · rename_i hn
    obtain ⟨h1, h2, h3⟩ := h0 (by simpa using hn)
    have h4 := put_kt (a.getD (newS p 1)) p
    split
    · exact si_none l
    · split
      · exact key _ _ (hs_pois _) h4.1 h4.2 h2 h3
      · exact key _ _ (hs_put h1 hw) h4.1 h4.2 h2 h3
structure Two (l m : List Pk) : Prop where
  one : ∀ z ∈ l, ∀ y ∈ l, isWhP y = false → kyB z y = true
  un : ∀ z ∈ l, ∀ y ∈ m, isWhP y = false → kyB z y = false
/-! What parted tells has one key. -/
structure Whl (p : Pk) : Prop where
  r : rgt2 p = true
  v : p.v = 4 ∨ p.v = 6
  off : p.off = 0
  more : p.more = false
  frag : p.frag = false
  df : p.df = false
  o : p.o = []
  len : p.d.length ≤ 4000
theorem Whl.is {p : Pk} (h : Whl p) : isWhP p = true := by simp [isWhP, h.off, h.more]
theorem part_len (p : Pk) (f t : Nat) (id : Int) (ht : t ≤ p.d.length) : (partQ p f t id).d.length = t - f := by
  have : (partQ p f t id).d = (p.d.drop f).take (t - f) := by unfold partQ pieceP; split <;> rfl
  rw [this, List.length_take, List.length_drop]
  omega
theorem part_rgt {p : Pk} {f t : Nat} {id : Int} (h : Whl p) (hft : f < t) (htn : t ≤ p.d.length) (hf8 : f % 8 = 0) (ht8 : t = p.d.length ∨ t % 8 = 0) : rgt2 (partQ p f t id) = true := by
  have hlen := part_len p f t id htn
  have hl := h.len
  unfold rgt2
  rw [Bool.or_eq_true]
  have h1 := h.r
  unfold rgt2 at h1
  rw [Bool.or_eq_true] at h1
  rcases h1 with h1 | h1
  · left
    obtain ⟨k, kv⟩ := (right_iff p).1 h1
    have hv := k.v
    have e : partQ p f t id = pieceP p f t := by unfold partQ; rw [if_neg (by omega)]
    rw [e] at hlen ⊢
    have a1 := k.o0; have a2 := k.reach; have a3 := h.off; have a4 := k.all
    rw [right_iff]
    refine ⟨⟨k.v, k.flow, k.frag, k.id, k.t0, k.t1, k.l0, k.l1, k.r0, k.r1, k.sv, k.sb, k.dv, k.db, ?_, ?_, ?_, fun hm => ?_, fun hm => ?_, fun hm => ?_, ?_, ?_⟩, kv⟩
    · show (0 : Int) ≤ (f : Int); omega
    · show (f : Int) ≤ 65528; omega
    · show (f : Int) % 8 = 0; omega
    · have hm2 : decide (t < p.d.length) = true := hm
      rw [decide_eq_true_eq] at hm2
      rw [hlen]; omega
    · rw [hlen]; omega
    · rw [hlen]; omega
    · rw [hlen]; show (f : Int) + _ ≤ _; omega
    · rw [hlen]; show 20 + p.o.length + (t - f) ≤ 65535; rw [h.o]; simp only [List.length_nil]; omega
  · right
    have k := (S6.right_iff p).1 h1
    have hv := k.v
    have e : partQ p f t id = { pieceP p f t with frag := true, id := id } := by unfold partQ; rw [if_pos (by omega)]
    rw [e] at hlen ⊢
    have hlen : (pieceP p f t).d.length = t - f := hlen
    rw [S6.right_iff]
    refine ⟨k.v, k.df, k.o, k.f0, k.f1, k.t0, k.t1, k.l0, k.l1, k.r0, k.r1, k.r44, k.sv, k.dv, ?_, ?_, ?_, fun hm => ?_, fun hm => ?_, ?_, fun hm => by simp at hm, ?_⟩
    · show (0 : Int) ≤ (f : Int); omega
    · show (f : Int) ≤ 65528; omega
    · show (f : Int) % 8 = 0; omega
    · have hm2 : decide (t < p.d.length) = true := hm
      rw [decide_eq_true_eq] at hm2
      show (pieceP p f t).d.length % 8 = 0
      rw [hlen]; omega
    · show (pieceP p f t).d.length ≠ 0
      rw [hlen]; omega
    · show (f : Int) + ((pieceP p f t).d.length : Int) ≤ _
      rw [hlen]; omega
    · show S6.hofP _ - 40 + (pieceP p f t).d.length ≤ _
      rw [hlen]
      have : S6.hofP { pieceP p f t with frag := true, id := id } = 48 := rfl
      rw [this]; omega
theorem parts_of {p : Pk} {id : Int} : ∀ {l : List Nat}, (∀ c ∈ l, (c = p.d.length ∨ c % 8 = 0) ∧ c ≤ p.d.length ∧ 0 < c) → (∀ c ∈ l.tail, c % 8 = 0) → l.Pairwise (fun a b => b < a) → ∀ {y : Pk}, y ∈ partsTo p id l →
    ∃ f t, y = partQ p f t id ∧ f < t ∧ t ≤ p.d.length ∧ f % 8 = 0 ∧ (t = p.d.length ∨ t % 8 = 0)
  | [], _, _, _, y, h => by simp [partsTo] at h
  | c :: r, h1, h2, h3, y, h => by
    rw [partsTo] at h
    rw [List.pairwise_cons] at h3
    rcases List.mem_append.1 h with h | h
    · refine parts_of (fun e he => h1 e (by simp [he])) (fun e he => h2 e (by simpa using List.mem_of_mem_tail he)) h3.2 h
    · simp at h
      have h4 := h1 c (by simp)
      refine ⟨_, _, h, ?_, h4.2.1, ?_, h4.1⟩
      · cases r with
        | nil => simpa using h4.2.2
        | cons e r => exact h3.1 e (by simp)
      · cases r with
        | nil => rfl
        | cons e r => exact h2 e (by simp)
end Go.Proofs.YtkccpidgeecemaaGreatDoor
