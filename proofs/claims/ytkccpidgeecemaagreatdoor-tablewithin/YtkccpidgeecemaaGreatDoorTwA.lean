/-
  For TableWithin: steps of a script, lists of int64, lists of keys behind one another; the state of the law's loop.
-/
import Derived.Test.YtkccpidgeecemaaGreatDoorTwB
import Derived.Test.YtkccpidgeecemaaGreatDoorTbC
import Derived.Test.YtkccpidgeecemaaGreatDoorTbD
import Derived.Test.YtkccpidgeecemaaGreatDoorKitA
namespace Go.Proofs.YtkccpidgeecemaaGreatDoor
set_option linter.unusedVariables false
set_option linter.unusedSimpArgs false
set_option maxRecDepth 20000

/-- What a call leaves: of one that stood, or a new one, whose key no younger one had. -/
def Leav (q : Qo) (now : Int) (cs : List Cel) (p : Pk) (put : Bool) (cs' : List Cel) : Prop :=
  ∀ k c', cs'[k]? = some c' → (∃ c ∈ cs, c.s.k = c'.s.k ∧ c.s.tb = c'.s.tb ∧ now - c'.s.tb < q.t) ∨
    (put = true ∧ k + 1 = cs'.length ∧ c'.s.tb = now ∧ c'.s.k = p ∧ ∀ c ∈ cs, kyB c.s.k p = true → q.t ≤ now - c.s.tb)
theorem take_late {q : Qo} {now : Int} : ∀ {cs : List Cel}, ∀ c ∈ cs, c ∈ cs.dropWhile (lateB q now) ∨ q.t ≤ now - c.s.tb
  | [], c, h => by simp at h
  | a :: r, c, h => by
    rw [List.dropWhile_cons]
    split
    · rename_i hl
      rcases List.mem_cons.1 h with rfl | h
      · right
        simpa [lateB] using hl
      · exact take_late c h
    · exact .inl h
theorem leav_tick {q : Qo} {t now : Int} {cs : List Cel} (p : Pk) (h : Keep q t cs) : Leav q now cs p false (cs.dropWhile (lateB q now)) := fun k c' hc => by
  have h1 := List.mem_of_getElem? hc
  exact .inl ⟨c', (List.dropWhile_sublist _).subset h1, rfl, rfl, drop_late (t := t) h.srt c' h1⟩
theorem leav_put {q : Qo} {t now : Int} {cs cs' : List Cel} {p : Pk} {n : Int} {wh ks : List Pk} (h : Keep q t cs) (hr : Res q now (cs.dropWhile (lateB q now)) p n wh ks cs') (hf : From q now cs p cs') : Leav q now cs p true cs' := by
  have hsub := List.dropWhile_sublist (lateB q now) (l := cs)
  have hy := drop_late (t := t) (now := now) (q := q) h.srt
  have old : ∀ d ∈ cs.dropWhile (lateB q now), ∀ c' : Cel, d.s.k = c'.s.k → d.s.tb = c'.s.tb → (∃ c ∈ cs, c.s.k = c'.s.k ∧ c.s.tb = c'.s.tb ∧ now - c'.s.tb < q.t) := fun d hd c' h1 h2 =>
    ⟨d, hsub.subset hd, h1, h2, by rw [← h2]; exact hy d hd⟩
  intro k c' hc
  rcases hf k c' hc with ⟨c, h1, h2, h3, h4⟩ | ⟨h1, h2, h3⟩
  · exact .inl ⟨c, h1, h2, h3, by rw [← h3]; exact h4⟩
  · rcases hr with ⟨-, -, -, -, rfl⟩ | ⟨-, cs1, i, c, fp1, fp2, hcc, htk⟩
    · exact .inl (old c' (List.mem_of_getElem? hc) c' rfl rfl)
    · rcases hcc with ⟨rfl, h4, h5⟩ | ⟨h4, -⟩
      · have hcm := List.mem_of_getElem? h4
        have hkt := put_kt c.s p
        have key : ∀ x : Cel, x.s.k = c.s.k → x.s.tb = c.s.tb → ∀ d ∈ (cs.dropWhile (lateB q now)).set i x, (∃ e ∈ cs.dropWhile (lateB q now), e.s.k = d.s.k ∧ e.s.tb = d.s.tb) := fun x h6 h7 d hd => by
          rcases List.mem_or_eq_of_mem_set hd with h8 | rfl
          · exact ⟨d, h8, rfl, rfl⟩
          · exact ⟨c, hcm, h6.symm, h7.symm⟩
        have hm := List.mem_of_getElem? hc
        have fin : (∃ e ∈ cs.dropWhile (lateB q now), e.s.k = c'.s.k ∧ e.s.tb = c'.s.tb) := by
          unfold takeC at htk
          split at htk
          · simp only [Tk.mk.injEq] at htk
            obtain ⟨-, -, -, rfl⟩ := htk
            exact key _ hkt.1 hkt.2 c' (List.mem_of_mem_eraseIdx hm)
          · split at htk
            · simp only [Tk.mk.injEq] at htk
              obtain ⟨-, -, -, rfl⟩ := htk
              exact key ⟨poisS (putS c.s p).2, c.g, fp2⟩ hkt.1 hkt.2 c' (List.mem_of_mem_drop hm)
            · simp only [Tk.mk.injEq] at htk
              obtain ⟨-, -, -, rfl⟩ := htk
              exact key ⟨(putS c.s p).2, c.g, fp1⟩ hkt.1 hkt.2 c' (List.mem_of_mem_drop hm)
        obtain ⟨e, h6, h7, h8⟩ := fin
        exact .inl (old e h6 c' h7 h8)
      · refine .inr ⟨rfl, h1, h2, h3, fun c hc hk => ?_⟩
        rcases take_late (q := q) (now := now) c hc with h5 | h5
        · have h6 := h4 c h5
          rw [ky_symm] at h6
          rw [h6] at hk; simp at hk
        · exact h5
theorem res_len {q : Qo} {now : Int} {cs cs' : List Cel} {p : Pk} {n : Int} {wh ks : List Pk} (h : Res q now cs p n wh ks cs') : wh.length ≤ 1 := by
  rcases h with ⟨-, -, rfl, -, -⟩ | ⟨-, cs1, i, c, fp1, fp2, -, ht⟩
  · simp
  · unfold takeC at ht
    split at ht
    · simp only [Tk.mk.injEq] at ht; rw [← ht.2.1]; simp
    · split at ht
      · simp only [Tk.mk.injEq] at ht; rw [← ht.2.1]; simp
      · simp only [Tk.mk.injEq] at ht; rw [← ht.2.1]; simp
/-- What the law's inner loop finds at a place: the tick at which the entry began, by the book of those that stood. -/
theorem leav_at {q : Qo} {now : Int} {cs cs' : List Cel} {p : Pk} {put : Bool} (h : Leav q now cs p put cs') (hd : cs.Pairwise (fun a b => kyB a.s.k b.s.k = false)) {k : Nat} {c' : Cel} (hc : cs'[k]? = some c') {z : Int} (hz : PosK (cs.map (·.s.k)) c'.s.k z) :
    (∃ i : Nat, z = (i : Int) ∧ i < cs.length ∧ (cs.map (·.s.tb))[i]? = some c'.s.tb ∧ now - c'.s.tb < q.t) ∨
    ((z = -1 ∨ ∃ (i : Nat) (b : Int), z = (i : Int) ∧ i < cs.length ∧ (cs.map (·.s.tb))[i]? = some b ∧ ¬ (now - b < q.t)) ∧ put = true ∧ k + 1 = cs'.length ∧ c'.s.tb = now ∧ c'.s.k = p) := by
  rcases hz with ⟨rfl, hno⟩ | ⟨i, x, rfl, hi, hx, -⟩
  · rcases h k c' hc with ⟨c, h1, h2, -⟩ | ⟨h1, h2, h3, h4, -⟩
    · have h5 := hno c.s.k (List.mem_map_of_mem h1)
      rw [h2, ky_self] at h5; simp at h5
    · exact .inr ⟨.inl rfl, h1, h2, h3, h4⟩
  · rw [List.getElem?_map] at hi
    cases hci : cs[i]? with
    | none => rw [hci] at hi; simp at hi
    | some e =>
      rw [hci] at hi
      simp only [Option.map_some, Option.some.injEq] at hi
      subst hi
      have hil := lt_of_get hci
      have hb : (cs.map (·.s.tb))[i]? = some e.s.tb := by rw [List.getElem?_map, hci]; rfl
      rcases h k c' hc with ⟨c, h1, h2, h3, h4⟩ | ⟨h1, h2, h3, h4, h5⟩
      · have : c.s.tb = e.s.tb := by
          obtain ⟨j, hj⟩ := List.mem_iff_getElem?.1 h1
          have hjl := lt_of_get hj
          have e1 : cs[j] = c := by rw [List.getElem?_eq_getElem hjl] at hj; exact Option.some.inj hj
          have e2 : cs[i] = e := by rw [List.getElem?_eq_getElem hil] at hci; exact Option.some.inj hci
          rcases Nat.lt_trichotomy i j with hlt | heq | hlt
          · have h6 := List.pairwise_iff_getElem.1 hd i j hil hjl hlt
            rw [e1, e2, h2, hx] at h6; simp at h6
          · subst heq; rw [← e1, ← e2]
          · have h6 := List.pairwise_iff_getElem.1 hd j i hjl hil hlt
            rw [e1, e2, h2, ky_symm, hx] at h6; simp at h6
        exact .inl ⟨i, rfl, hil, by rw [hb, ← this, h3], h4⟩
      · refine .inr ⟨.inr ⟨i, e.s.tb, rfl, hil, hb, ?_⟩, h1, h2, h3, h4⟩
        have := h5 e (List.mem_of_getElem? hci) (by rw [← h4]; exact hx)
        omega
/-- Its other checks. -/
theorem keep_at {q : Qo} {now : Int} {cs : List Cel} (h : Keep q now cs) (hd : cs.Pairwise (fun a b => kyB a.s.k b.s.k = false)) {k : Nat} {c : Cel} (hc : cs[k]? = some c) :
    0 ≤ holesOf cs c.s.k ∧ holesOf cs c.s.k ≤ q.h ∧ now - c.s.tb < q.t ∧ (∀ z, PosK ((cs.drop (k + 1)).map (·.s.k)) c.s.k z → z = -1) ∧ (∀ (j : Nat) (d : Cel), j < k → cs[j]? = some d → d.s.tb ≤ c.s.tb) := by
  have hm := List.mem_of_getElem? hc
  have hkl := lt_of_get hc
  have e1 : cs[k] = c := by rw [List.getElem?_eq_getElem hkl] at hc; exact Option.some.inj hc
  have hf : holesOf cs c.s.k = holesN c.s := by
    unfold holesOf
    have : cs.find? (fun d => kyB c.s.k d.s.k) = some c := by
      rw [List.find?_eq_some_iff_getElem]
      refine ⟨ky_self _, k, hkl, e1, fun j hj => ?_⟩
      have h6 := List.pairwise_iff_getElem.1 hd j k (by omega) hkl hj
      rw [e1] at h6
      rw [ky_symm, h6]; rfl
    rw [this]
  have h0 : 0 ≤ holesN c.s := by unfold holesN; split <;> omega
  refine ⟨by rw [hf]; exact h0, by rw [hf]; exact h.hol c hm, (h.tb c hm).2.2, fun z hz => ?_, fun j d hj hd' => ?_⟩
  · rcases hz with ⟨rfl, -⟩ | ⟨i, x, -, hi, hx, -⟩
    · rfl
    · rw [List.getElem?_map] at hi
      cases hci : (cs.drop (k + 1))[i]? with
      | none => rw [hci] at hi; simp at hi
      | some e =>
        rw [hci] at hi
        simp only [Option.map_some, Option.some.injEq] at hi
        subst hi
        rw [List.getElem?_drop] at hci
        have hil := lt_of_get hci
        have e2 : cs[k + 1 + i] = e := by rw [List.getElem?_eq_getElem hil] at hci; exact Option.some.inj hci
        have h6 := List.pairwise_iff_getElem.1 hd k (k + 1 + i) hkl hil (by omega)
        rw [e1, e2, ky_symm, hx] at h6; simp at h6
  · have hjl := lt_of_get hd'
    have e2 : cs[j] = d := by rw [List.getElem?_eq_getElem hjl] at hd'; exact Option.some.inj hd'
    have h6 := List.pairwise_iff_getElem.1 h.srt j k hjl hkl hj
    rw [e1, e2] at h6; exact h6
theorem told_len (q : Qo) (now : Int) (cs : List Cel) : (toldL (cs.takeWhile (lateB q now))).length ≤ cs.length := by
  unfold toldL
  exact Nat.le_trans (List.length_filterMap_le _ _) (List.takeWhile_sublist _).length_le
end Go.Proofs.YtkccpidgeecemaaGreatDoor

namespace Go.Proofs.YtkccpidgeecemaaGreatDoor
set_option linter.unusedVariables false
set_option linter.unusedSimpArgs false
set_option maxRecDepth 20000

/-- What an entry's numbers keep to, poisoned or not. -/
def Hs (s : Es) : Prop := (0 ≤ s.h ∧ s.h ≤ 65535) ∧ (s.bad = false → ∃ T, Iv s T)
theorem hs_new (k : Pk) (t : Int) : Hs (newS k t) := ⟨by simp [newS], fun _ => ⟨_, iv_new k t⟩⟩
theorem hs_pois (s : Es) : Hs (poisS s) := ⟨by simp [poisS], fun h => by simp [poisS] at h⟩
theorem hs_put {s : Es} {p : Pk} (h : Hs s) (hw : Wf p) : Hs (putS s p).2 := by
  refine ⟨?_, put_iv h.2 hw⟩
  by_cases hb : (putS s p).2.bad = false
  · obtain ⟨T, hT⟩ := put_iv h.2 hw hb
    have h1 := hT.cnt
    have h2 := cnt_le T 65535
    omega
  · unfold putS at hb ⊢
    by_cases h1 : ownB s p = false
    · rw [if_pos h1]; exact h.1
    · rw [if_neg h1] at hb ⊢
      by_cases h2 : s.bad = true
      · rw [if_pos h2]; exact h.1
      · rw [if_neg h2] at hb ⊢
        by_cases h3 : (takeS s p).1 = 4
        · rw [if_pos h3]; exact (hs_pois s).1
        · rw [if_neg h3] at hb
          rw [(take_bad s p).1] at hb
          exact absurd (by simpa using hb) h2
/-- What one key's entry becomes, and what is told. -/
def apN (a : Option Es) (p : Pk) : Int × List Pk × Option Es :=
  if isWhP p = true then (0, [dgP p], a)
  else if (putS (a.getD (newS p 1)) p).1 = 6 then (6, [(wholeP (putS (a.getD (newS p 1)) p).2).1], none)
  else if 8192 < holesN (putS (a.getD (newS p 1)) p).2 then (4, [], some (poisS (putS (a.getD (newS p 1)) p).2))
  else ((putS (a.getD (newS p 1)) p).1, [], some (putS (a.getD (newS p 1)) p).2)
/-- The entries of two keys, the one's ahead or the other's. -/
def Mix (l : List Es) (a b : Option Es) : Prop := l = a.toList ++ b.toList ∨ l = b.toList ++ a.toList
theorem Mix.symm {l : List Es} {a b : Option Es} (h : Mix l a b) : Mix l b a := h.elim .inr .inl
theorem Mix.one {l : List Es} {a : Option Es} (h : Mix l a none) : l = a.toList := by rcases h with h | h <;> simpa using h
theorem push_no {cs : List Cel} (hl : cs.length ≤ 2) (hh : ∀ c ∈ cs, 0 ≤ c.s.h ∧ c.s.h ≤ 65535) : pushN wideQ cs = 0 := by
  cases cs with
  | nil => rfl
  | cons c r =>
    rw [pushN, if_neg]
    unfold overB
    rw [Bool.or_eq_true, decide_eq_true_eq, decide_eq_true_eq]
    have h1 := hh c (by simp)
    have h2 : 0 ≤ sumC r ∧ sumC r ≤ 65535 := by
      cases r with
      | nil => simp [sumC]
      | cons d r =>
        have h3 := hh d (by simp)
        cases r with
        | nil => simp [sumC]; try omega
        | cons e r => simp at hl
    rw [sumC_cons]
    simp only [wideQ] at *
    simp at hl
    show ¬ ((64 : Int) < _ ∨ (1048576 : Int) < _)
    simp only [List.length_cons]
    omega
/-- An entry, of one of two keys. -/
theorem mix_len {l : List Es} {a b : Option Es} (h : Mix l a b) : l.length ≤ 2 := by
  rcases h with rfl | rfl <;> cases a <;> cases b <;> simp
theorem mix_mem {l : List Es} {a b : Option Es} (h : Mix l a b) (s : Es) : s ∈ l ↔ a = some s ∨ b = some s := by
  rcases h with rfl | rfl <;> simp [List.mem_append, or_comm]
theorem erase_map {α β : Type} (f : α → β) : ∀ (l : List α) (i : Nat), (l.eraseIdx i).map f = (l.map f).eraseIdx i
  | [], _ => by simp
  | a :: r, 0 => by simp
  | a :: r, i + 1 => by simp [erase_map f r i]
/-- What stands at a place of two. -/
theorem mix_at {l : List Es} {a b : Option Es} (h : Mix l a b) {s : Es} (ha : a = some s) (hb : b ≠ some s) {i : Nat} (hi : l[i]? = some s) (x : Es) :
    Mix (l.set i x) (some x) b ∧ Mix ((l.set i x).eraseIdx i) none b := by
  subst ha
  rcases h with rfl | rfl
  · cases b with
    | none =>
      match i with
      | 0 => exact ⟨.inl rfl, .inl rfl⟩
      | i + 1 => simp at hi
    | some t =>
      match i with
      | 0 => exact ⟨.inl rfl, .inl rfl⟩
      | 1 => simp at hi; subst hi; simp at hb
      | i + 2 => simp at hi
  · cases b with
    | none =>
      match i with
      | 0 => exact ⟨.inr rfl, .inr rfl⟩
      | i + 1 => simp at hi
    | some t =>
      match i with
      | 0 => simp at hi; subst hi; simp at hb
      | 1 => exact ⟨.inr rfl, .inr rfl⟩
      | i + 2 => simp at hi
theorem mix_new {l : List Es} {b : Option Es} (h : Mix l none b) (s x : Es) : Mix ((l ++ [s]).set l.length x) (some x) b ∧ Mix (((l ++ [s]).set l.length x).eraseIdx l.length) none b := by
  have e : l = b.toList := by rcases h with rfl | rfl <;> simp
  subst e
  cases b with
  | none => exact ⟨.inl rfl, .inl rfl⟩
  | some t => exact ⟨.inr rfl, .inr rfl⟩
/-- What a Put does in a table that holds two keys. -/
theorem res_mix {cs cs' : List Cel} {a b : Option Es} {p : Pk} {n : Int} {wh ks : List Pk} (hm : Mix (cs.map (·.s)) a b) (ha : ∀ s, a = some s → isWhP p = false → kyB p s.k = true) (hb : ∀ s, b = some s → kyB p s.k = false)
    (hs : ∀ s, a = some s ∨ b = some s → Hs s) (hw : Wf p) (h : Res wideQ 1 cs p n wh ks cs') :
    n = (apN a p).1 ∧ wh = (apN a p).2.1 ∧ ks = [] ∧ Mix (cs'.map (·.s)) (apN a p).2.2 b := by
  rcases h with ⟨h1, rfl, rfl, rfl, rfl⟩ | ⟨h1, cs1, i, c, fp1, fp2, hc, ht⟩
  · unfold apN
    rw [if_pos h1]
    exact ⟨rfl, rfl, rfl, hm⟩
  · have key : c.s = a.getD (newS p 1) ∧ Hs c.s ∧ cs1.length ≤ 2 ∧ (∀ x ∈ cs1, Hs x.s) ∧ ∀ (x : Es) (g : Nat) (fp : List Nat), Mix ((cs1.set i ⟨x, g, fp⟩).map (·.s)) (some x) b ∧ Mix (((cs1.set i ⟨x, g, fp⟩).eraseIdx i).map (·.s)) none b := by
      have hl : cs.length ≤ 2 := by simpa using mix_len hm
      have hall : ∀ x ∈ cs, Hs x.s := fun x hx => hs _ ((mix_mem hm x.s).1 (List.mem_map_of_mem hx))
      rcases hc with ⟨rfl, h2, h3⟩ | ⟨h2, g, fp, rfl, rfl, rfl⟩
      · have h4 : (cs1.map (·.s))[i]? = some c.s := by rw [List.getElem?_map, h2]; rfl
        have h5 := (mix_mem hm c.s).1 (List.mem_of_getElem? h4)
        have h6 : b ≠ some c.s := fun e => by rw [hb _ e] at h3; simp at h3
        have h7 : a = some c.s := h5.resolve_right h6
        refine ⟨by rw [h7]; rfl, hall c (List.mem_of_getElem? h2), hl, hall, fun x g fp => ?_⟩
        have h8 := mix_at hm h7 h6 h4 x
        rw [show (cs1.set i ⟨x, g, fp⟩).map (·.s) = (cs1.map (·.s)).set i x from by rw [List.map_set], ]
        rw [show ((cs1.set i ⟨x, g, fp⟩).eraseIdx i).map (·.s) = ((cs1.map (·.s)).set i x).eraseIdx i from by rw [erase_map, List.map_set]]
        exact h8
      · have h3 : a = none := by
          cases ea : a with
          | none => rfl
          | some s =>
            have h4 := (mix_mem hm s).2 (.inl ea)
            obtain ⟨d, hd, hds⟩ := List.mem_map.1 h4
            have h5 := h2 d hd
            rw [hds, ha s ea h1] at h5
            simp at h5
        subst h3
        have hl1 : cs.length ≤ 1 := by
          have e : cs.map (·.s) = b.toList := by rcases hm with e | e <;> simpa using e
          have := congrArg List.length e
          rw [List.length_map] at this
          have h2 : b.toList.length ≤ 1 := by cases b <;> simp
          omega
        refine ⟨rfl, hs_new p 1, by simp; omega, fun x hx => ?_, fun x g' fp' => ?_⟩
        · rcases List.mem_append.1 hx with hx | hx
          · exact hall x hx
          · simp at hx; subst hx; exact hs_new p 1
        · have h8 := mix_new hm (newS p 1) x
          have e2 : ((cs ++ [(⟨newS p 1, g, fp⟩ : Cel)]).set cs.length ⟨x, g', fp'⟩).map (·.s) = ((cs.map (·.s)) ++ [newS p 1]).set (cs.map (·.s)).length x := by rw [List.map_set, List.map_append, List.length_map]; rfl
          rw [erase_map, e2]
          rw [List.length_map] at h8 ⊢
          exact h8
    obtain ⟨k1, k2, k3, k4, k5⟩ := key
    have hno : ∀ x g fp, Hs x → pushN wideQ (cs1.set i ⟨x, g, fp⟩) = 0 := fun x g fp hx => push_no (by rw [List.length_set]; exact k3) (fun d hd => by
      rcases List.mem_or_eq_of_mem_set hd with h2 | rfl
      · exact (k4 d h2).1
      · exact hx.1)
    unfold takeC at ht
    unfold apN
    rw [if_neg (by rw [h1]; simp), ← k1]
    have hp := hs_put k2 hw
    by_cases h6 : (putS c.s p).1 = 6
    · rw [if_pos h6] at ht ⊢
      injection ht with t1 t2 t3 t4
      exact ⟨t1.symm, t2.symm, t3.symm, by rw [← t4]; exact (k5 _ _ _).2⟩
    · rw [if_neg h6] at ht ⊢
      by_cases h7 : wideQ.h < holesN (putS c.s p).2
      · rw [if_pos h7] at ht
        rw [if_pos (show 8192 < holesN (putS c.s p).2 from h7)]
        rw [hno _ _ _ (hs_pois _)] at ht
        injection ht with t1 t2 t3 t4
        exact ⟨t1.symm, t2.symm, by rw [← t3]; rfl, by rw [← t4, List.drop_zero]; exact (k5 _ _ _).1⟩
      · rw [if_neg h7] at ht
        rw [if_neg (show ¬ 8192 < holesN (putS c.s p).2 from h7)]
        rw [hno _ _ _ hp] at ht
        injection ht with t1 t2 t3 t4
        exact ⟨t1.symm, t2.symm, by rw [← t3]; rfl, by rw [← t4, List.drop_zero]; exact (k5 _ _ _).1⟩
/-- What one key's entry keeps to, whose packets are l. -/
structure Si (l : List Pk) (a : Option Es) : Prop where
  hs : ∀ s, a = some s → Hs s
  k : ∀ s, a = some s → s.k ∈ l ∧ isWhP s.k = false
  tb : ∀ s, a = some s → s.tb = 1
theorem si_none (l : List Pk) : Si l none := ⟨by simp, by simp, by simp⟩
theorem Si.put {l : List Pk} {a : Option Es} (h : Si l a) {p : Pk} (hp : p ∈ l) (hw : Wf p) : Si l (apN a p).2.2 := by
  have h0 : isWhP p = false → Hs (a.getD (newS p 1)) ∧ ((a.getD (newS p 1)).k ∈ l ∧ isWhP (a.getD (newS p 1)).k = false) ∧ (a.getD (newS p 1)).tb = 1 := fun hn => by
    cases ea : a with
    | none => exact ⟨hs_new p 1, ⟨hp, hn⟩, rfl⟩
    | some s => exact ⟨h.hs s ea, h.k s ea, h.tb s ea⟩
  have key : ∀ (s x : Es), Hs x → x.k = s.k → x.tb = s.tb → s.k ∈ l ∧ isWhP s.k = false → s.tb = 1 → Si l (some x) := fun s x h1 h2 h3 h4 h5 =>
    ⟨fun y e => by injection e with e; rw [← e]; exact h1, fun y e => by injection e with e; rw [← e, h2]; exact h4, fun y e => by injection e with e; rw [← e, h3]; exact h5⟩
  unfold apN
  split
  · exact h
  · rename_i hn
    obtain ⟨h1, h2, h3⟩ := h0 (by simpa using hn)
    have h4 := put_kt (a.getD (newS p 1)) p
    split
    · exact si_none l
    · split
      · exact key _ _ (hs_pois _) h4.1 h4.2 h2 h3
      · exact key _ _ (hs_put h1 hw) h4.1 h4.2 h2 h3
/-- Packets of one key, or one that is whole; of two lists no key is in common. -/
structure Two (l m : List Pk) : Prop where
  one : ∀ z ∈ l, ∀ y ∈ l, isWhP y = false → kyB z y = true
  un : ∀ z ∈ l, ∀ y ∈ m, isWhP y = false → kyB z y = false
/-! What parted tells has one key. -/
end Go.Proofs.YtkccpidgeecemaaGreatDoor

namespace Go.Proofs.YtkccpidgeecemaaGreatDoor
set_option linter.unusedVariables false
set_option linter.unusedSimpArgs false
set_option maxRecDepth 20000

/-- A whole packet of the law. -/
structure Whl (p : Pk) : Prop where
  r : rgt2 p = true
  v : p.v = 4 ∨ p.v = 6
  off : p.off = 0
  more : p.more = false
  frag : p.frag = false
  df : p.df = false
  o : p.o = []
  len : p.d.length ≤ 4000
theorem Whl.is {p : Pk} (h : Whl p) : isWhP p = true := by simp [isWhP, h.off, h.more]
end Go.Proofs.YtkccpidgeecemaaGreatDoor

namespace Go.Proofs.YtkccpidgeecemaaGreatDoor
open Go.ChangeShapes Go.WideShapes Go.ChangeAt Go.RowKit
set_option linter.unusedVariables false
set_option linter.unusedSimpArgs false
set_option maxRecDepth 100000

/-- A table and where it lies. -/
structure T4 where
  g : Nat
  m : Nat
  o : Value
  cs : List Cel
def T4.fp (T : T4) : List Nat := fpT T.g T.m T.o T.cs
/-- It holds the entries of two keys at most, begun at 1. -/
structure Tw (w : World) (N : Nat) (T : T4) (a b : Option Es) : Prop where
  tab : ∃ t, (t = 1 ∨ (t = 0 ∧ T.cs = [])) ∧ Tab w T.g T.m T.o wideQ t T.cs
  new : ∀ z ∈ T.fp, N ≤ z
  mix : Mix (T.cs.map (·.s)) a b
section
variable {w w' : World} {N : Nat} {T : T4} {a b : Option Es}
theorem Tw.away {S : List Nat} (h : Tw w N T a b) (hw : Away S w w') (hS : ∀ z ∈ T.fp, z ∉ S) : Tw w' N T a b := by
  obtain ⟨t, h1, h2⟩ := h.tab
  exact ⟨⟨t, h1, h2.away hw hS⟩, h.new, h.mix⟩
theorem Tw.on (h : Tw w N T a b) (hw : Away [] w w') : Tw w' N T a b := h.away hw (by simp)
theorem Tw.lt (h : Tw w N T a b) : ∀ z ∈ T.fp, z < w.heap.size := by
  obtain ⟨t, h1, h2⟩ := h.tab
  exact h2.lt
theorem Tw.any (h : Tw w N T a b) : ∃ t, Tab w T.g T.m T.o wideQ t T.cs := by
  obtain ⟨t, h1, h2⟩ := h.tab
  exact ⟨t, h2⟩
/-- What Put tells. -/
def TputO (w : World) (N : Nat) (T : T4) (b : Option Es) (r : Int × List Pk × Option Es) (E : Ending) (w' : World) : Prop :=
  ∃ wa wc la lc ga gc xs T', E = .returned (.tuple #[.agg (csTo r.1 (.slice wa xs.length wc) (.slice la 0 lc) (.slice ga 0 gc)), .int .i64 0]) ∧ Cuts w' w.heap.size (.slice wa xs.length wc) xs ∧ xs.map X.p = r.2.1 ∧ xs.length ≤ 1 ∧ T'.g = T.g ∧
    Tw w' N T' r.2.2 b ∧ (∀ z ∈ T'.fp, z ∈ T.fp ∨ w.heap.size ≤ z) ∧ Away T.fp w w'
theorem apN_len (a : Option Es) (p : Pk) : (apN a p).2.1.length ≤ 1 := by
  unfold apN
  split
  · simp
  · split
    · simp
    · split <;> simp
theorem Tw.put (h : Tw w N T a b) (hN : 0 < N) (hg : Glob w) (hs : ∀ s, a = some s ∨ b = some s → Hs s ∧ s.tb = 1) {p : Pk} {po pd : Value} (hk : Pkt w p po pd) (ho : p.o = []) (hd : ∀ k, pd.ownBlock = some k → k ∉ T.fp) (hr : rgt2 p = true)
    (ha : ∀ s, a = some s → isWhP p = false → kyB p s.k = true) (hb : ∀ s, b = some s → kyB p s.k = false) :
    Calls Tryz.prog 10 #[.pointer (some ⟨T.g, 0, none⟩), .agg (csP p po pd), .int .i64 1] w (TputO w N T b (apN a p)) := by
  obtain ⟨t, ht, htab⟩ := h.tab
  have htb : ∀ c ∈ T.cs, c.s.tb = 1 := fun c hc => (hs c.s ((mix_mem h.mix c.s).1 (List.mem_map_of_mem hc))).2
  have hlen : T.cs.length ≤ 2 := by simpa using mix_len h.mix
  have hin : PutIn w T.g T.m T.o wideQ t T.cs p po pd := ⟨htab, hg, hk, ⟨fun e => absurd ho e, fun _ k hk => hd k hk⟩, fun hm => by have := h.new 0 hm; omega, fun c hc => by
    have h1 := htb c hc
    rcases ht with rfl | ⟨rfl, e⟩
    · omega
    · rw [e] at hc; simp at hc, by rcases ht with rfl | ⟨rfl, -⟩ <;> omega, ⟨by decide, by decide⟩, by omega⟩
  refine (tput_c hin 1).mono ?_
  rintro E w' (⟨hx, -⟩ | ⟨-, n', wv, lv, gv, ov', xs, ys, ks, cs', rfl, hcw, hcl, hgk, hgn, hys, htab', hres, hfp, haw⟩)
  · rcases hx with h1 | h1 | h1
    · rw [hr] at h1; simp at h1
    · rcases ht with rfl | ⟨rfl, -⟩ <;> omega
    · omega
  · have hl : ∀ c ∈ T.cs, lateB wideQ 1 c = false := fun c hc => by
      unfold lateB
      rw [htb c hc]; decide
    have e1 : T.cs.takeWhile (lateB wideQ 1) = [] := by
      cases hcs : T.cs with
      | nil => rfl
      | cons c r => rw [List.takeWhile_cons, hl c (by rw [hcs]; simp)]; rfl
    have e2 : T.cs.dropWhile (lateB wideQ 1) = T.cs := by
      cases hcs : T.cs with
      | nil => rfl
      | cons c r => rw [List.dropWhile_cons, hl c (by rw [hcs]; simp)]; rfl
    rw [e1] at hys
    rw [e2] at hres
    obtain ⟨rfl, hwh, rfl, hmix⟩ := res_mix h.mix ha hb (fun s e => (hs s e).1) hk.wf hres
    have hy0 : ys = [] := by
      have : (ys.map X.p).length = 0 := by rw [hys]; rfl
      rw [List.length_map] at this
      exact List.eq_nil_of_length_eq_zero this
    subst hy0
    have hxl : xs.length ≤ 1 := by
      have h1 := apN_len a p
      rw [← hwh, List.length_map] at h1
      exact h1
    obtain ⟨a1, c1, rfl, -⟩ := hcw.pks (by omega)
    obtain ⟨a2, c2, rfl, -⟩ := hcl.pks (by simp)
    obtain ⟨a3, c3, rfl⟩ : ∃ a3 c3, gv = .slice a3 0 c3 := by
      rcases hgk.shp with ⟨e, -⟩ | ⟨g, cap, e⟩
      · exact ⟨_, _, e⟩
      · exact ⟨_, _, e⟩
    refine ⟨a1, c1, a2, c2, a3, c3, xs, ⟨T.g, T.m, ov', cs'⟩, rfl, hcw, hwh, hxl, rfl, ⟨⟨1, .inl rfl, htab'⟩, fun z hz => ?_, hmix⟩, hfp, haw⟩
    rcases hfp z hz with h1 | h1
    · exact h.new z h1
    · have h2 := h.new T.g (mem_fpT.2 (.inl rfl))
      have h3 := h.lt T.g (mem_fpT.2 (.inl rfl))
      omega
/-- Three of them: one for both keys, one for each. -/
structure Tri (w : World) (N : Nat) (B X Y : T4) (a b : Option Es) : Prop where
  both : Tw w N B a b
  x : Tw w N X a none
  y : Tw w N Y b none
  bx : ∀ z ∈ B.fp, z ∉ X.fp
  by' : ∀ z ∈ B.fp, z ∉ Y.fp
  xy : ∀ z ∈ X.fp, z ∉ Y.fp
theorem Tw.symm (h : Tw w N T a b) : Tw w N T b a := ⟨h.tab, h.new, h.mix.symm⟩
theorem Tri.on {B X Y : T4} (h : Tri w N B X Y a b) (hw : Away [] w w') : Tri w' N B X Y a b := ⟨h.both.on hw, h.x.on hw, h.y.on hw, h.bx, h.by', h.xy⟩
theorem Tri.symm {B X Y : T4} (h : Tri w N B X Y a b) : Tri w N B Y X b a := ⟨h.both.symm, h.y, h.x, h.by', h.bx, fun z h1 h2 => h.xy z h2 h1⟩
end
end Go.Proofs.YtkccpidgeecemaaGreatDoor

namespace Go.Proofs.YtkccpidgeecemaaGreatDoor
open Go.ChangeShapes Go.WideShapes Go.ChangeAt Go.RowKit
set_option linter.unusedVariables false
set_option linter.unusedSimpArgs false
set_option maxRecDepth 100000

/-- A told record: steps that may come in any order. -/
theorem step_alloc44 {ops : Array Oper} {o : Oper} {a : Act} {w : World} {K : Act → World → Prop} {Q : Exit → Act → World → Prop} {E : Prop} (hg : o.guard = none) (ho : o.op = .alloc 44)
    (hK : ∀ g w1, w.heap.size ≤ g → BoxT w1 g 0 nilV nilV nilV → Away [] w w1 → K (a.put o.dst (.pointer (some ⟨g, 0, none⟩))) w1) : if Region.wanted o (yielded ops a.tmps) = true then Oper.wp Tryz.prog o a w K Q else E := by
  have hw : Region.wanted o (yielded ops a.tmps) = true := by simp [Region.wanted, hg]
  rw [if_pos hw]
  unfold Oper.wp execOp
  simp only [ho, Instr.alloc, newVar, newRow, Sem.run_bind, zero33 w, run_newObj_alloc, Sem.run_pure, Result.andThen_ok]
  exact hK w.heap.size _ (Nat.le_refl _) (block_new _ _) ((Away.refl [] w).alloc _)
theorem step_store44 {ops : Array Oper} {o : Oper} {a : Act} {w : World} {K : Act → World → Prop} {Q : Exit → Act → World → Prop} {E : Prop} (hg : o.guard = none) (x y : Operand) (ho : o.op = .store 44 x y)
    (g : Nat) (hx : a.eval x = .pointer (some ⟨g, 0, none⟩)) (n : Int) (wv lv gv : Value) (hy : a.eval y = .agg (csTo n wv lv gv)) (n' : Int) (wv' lv' gv' : Value) (hb : BoxT w g n' wv' lv' gv') (h1 : wv.oneCell' = true) (h2 : lv.oneCell' = true) (h3 : gv.oneCell' = true)
    (hK : ∀ w1, BoxT w1 g n wv lv gv → Away [g] w w1 → K (a.put o.dst undef) w1) : if Region.wanted o (yielded ops a.tmps) = true then Oper.wp Tryz.prog o a w K Q else E := by
  have hw : Region.wanted o (yielded ops a.tmps) = true := by simp [Region.wanted, hg]
  rw [if_pos hw]
  exact wp_store_row 44 x y ho g (csTo n wv lv gv) hx hy 44 (csTo n' wv' lv' gv') hb (by exact info33) (by rfl) (csTo_one h1 h2 h3) (hK _ (by
    unfold BoxT at hb ⊢; simp [World.setRow, Array.getElem?_modify, hb]) ((Away.refl [g] w).setRow (.inl (by simp)) _))
theorem BoxT.lt {w : World} {g : Nat} {n : Int} {a b c : Value} (h : BoxT w g n a b c) : g < w.heap.size := lt_of_block h
theorem BoxT.keep {w w' : World} {S : List Nat} {g : Nat} {n : Int} {a b c : Value} (h : BoxT w g n a b c) (hw : Away S w w') (hg : g ∉ S) : BoxT w' g n a b c := hw.keep hg h
/-- One side of the three tables. -/
structure Sd (wN : World) (gB gP gQ g15 s : Nat) (l m : List Pk) (B P Q : T4) (aB aP b : Option Es) (w : World) : Prop where
  eB : B.g = gB
  eP : P.g = gP
  eQ : Q.g = gQ
  both : Tw w wN.heap.size B aB b
  x : Tw w wN.heap.size P aP none
  y : Tw w wN.heap.size Q b none
  bx : ∀ z ∈ B.fp, z ∉ P.fp
  by' : ∀ z ∈ B.fp, z ∉ Q.fp
  xy : ∀ z ∈ P.fp, z ∉ Q.fp
  sB : Si l aB
  sP : Si l aP
  sb : Si m b
  fB : g15 ∉ B.fp
  fP : g15 ∉ P.fp
  fQ : g15 ∉ Q.fp
  lt : g15 < w.heap.size
  new : wN.heap.size ≤ g15
  aw : Away [] wN w
  cP : w.cell? ⟨g15, s, none⟩ = some (.pointer (some ⟨gP, 0, none⟩))
  cQ : w.cell? ⟨g15, 1 - s, none⟩ = some (.pointer (some ⟨gQ, 0, none⟩))
section
variable {wN w w' : World} {gB gP gQ g15 s : Nat} {l m : List Pk} {B P Q : T4} {aB aP b : Option Es} {p : Pk}
theorem Sd.on (h : Sd wN gB gP gQ g15 s l m B P Q aB aP b w) (hw : Away [] w w') : Sd wN gB gP gQ g15 s l m B P Q aB aP b w' :=
  ⟨h.eB, h.eP, h.eQ, h.both.on hw, h.x.on hw, h.y.on hw, h.bx, h.by', h.xy, h.sB, h.sP, h.sb, h.fB, h.fP, h.fQ, Nat.lt_of_lt_of_le h.lt hw.size, h.new, h.aw.trans hw, hw.cell (by simp) h.cP, hw.cell (by simp) h.cQ⟩
theorem Sd.other (h : Sd wN gB gP gQ g15 s l m B P Q aB aP b w) {g : Nat} (hw : Away [g] w w') (hg : wN.heap.size ≤ g) (h1 : g ∉ B.fp) (h2 : g ∉ P.fp) (h3 : g ∉ Q.fp) (h4 : g ≠ g15) : Sd wN gB gP gQ g15 s l m B P Q aB aP b w' :=
  ⟨h.eB, h.eP, h.eQ, h.both.away hw (fun z hz e => by simp at e; subst e; exact h1 hz), h.x.away hw (fun z hz e => by simp at e; subst e; exact h2 hz), h.y.away hw (fun z hz e => by simp at e; subst e; exact h3 hz), h.bx, h.by', h.xy, h.sB, h.sP, h.sb, h.fB, h.fP, h.fQ, Nat.lt_of_lt_of_le h.lt hw.size, h.new,
    h.aw.next hw (fun z hz => by simp at hz; subst hz; exact .inr hg), hw.cell (by simpa using fun e => h4 e.symm) h.cP, hw.cell (by simpa using fun e => h4 e.symm) h.cQ⟩
theorem Sd.putP (h : Sd wN gB gP gQ g15 s l m B P Q aB aP b w) {T : T4} {a' : Option Es} (hg : T.g = P.g) (ht : Tw w' wN.heap.size T a' none) (hs : Si l a') (hf : ∀ z ∈ T.fp, z ∈ P.fp ∨ w.heap.size ≤ z) (hw : Away P.fp w w') : Sd wN gB gP gQ g15 s l m B T Q aB a' b w' :=
  ⟨h.eB, hg.trans h.eP, h.eQ, h.both.away hw (fun z h1 h2 => h.bx z h1 h2), ht, h.y.away hw (fun z h1 h2 => h.xy z h2 h1),
    fun z hz hz2 => by
      rcases hf z hz2 with h1 | h1
      · exact h.bx z hz h1
      · have := h.both.lt z hz; omega, h.by',
    fun z hz hz2 => by
      rcases hf z hz with h1 | h1
      · exact h.xy z h1 hz2
      · have := h.y.lt z hz2; omega, h.sB, hs, h.sb, h.fB,
    fun hm => by
      rcases hf _ hm with h1 | h1
      · exact h.fP h1
      · have := h.lt; omega, h.fQ, Nat.lt_of_lt_of_le h.lt hw.size, h.new, h.aw.next hw (fun z hz => .inr (h.x.new z hz)), hw.cell h.fP h.cP, hw.cell h.fP h.cQ⟩
end
end Go.Proofs.YtkccpidgeecemaaGreatDoor

namespace Go.Proofs.YtkccpidgeecemaaGreatDoor
open Go.ChangeShapes Go.WideShapes Go.ChangeAt Go.RowKit
open S6 (wp_region_cls quiet_val quiet_call quiet_ld ld3 ld4 ld5 ld25 ld26 load28_run load24m_run)
set_option linter.unusedVariables false
set_option linter.unusedSimpArgs false
set_option maxRecDepth 100000

/-! A step of a script in memory. -/
def csO (o : Oq) : Array Value := o.cells.toArray
def BoxO (w : World) (g : Nat) (o : Oq) : Prop := w.heap[g]? = some (.cells (csO o) 41 (0, 0))
def zeroO : Oq := ⟨0, ⟨0, 0, 0, 0⟩, ⟨zeroPk, .slice none 0 0, .slice none 0 0⟩, 0⟩
theorem oq_len {o : Oq} (h : Ad o.x.p) : o.cells.length = 52 := by simp [Oq.cells, listP_len h]
theorem csO_size {o : Oq} (h : Ad o.x.p) : (csO o).size = 52 := by simpa [csO] using oq_len h
theorem info41 : (Tryz.prog.info? 41).map (·.size) = some 52 := by kernel_rfl
theorem zero41 : (Tryz.prog.info? 41).bind (·.zero) = some (.agg (csO zeroO)) := by kernel_rfl
theorem csO_one (o : Oq) (h1 : o.x.o.oneCell' = true) (h2 : o.x.d.oneCell' = true) : (csO o).all (·.oneCell') = true := by
  have h := csP_one o.x.p o.x.o o.x.d h1 h2
  rw [Array.all_eq_true_iff_forall_mem] at h ⊢
  intro x hx
  simp only [csO, Oq.cells, List.mem_toArray, List.mem_cons, List.mem_append, List.not_mem_nil, or_false] at hx
  rcases hx with rfl | rfl | rfl | rfl | rfl | hx | rfl
  all_goals first | rfl | exact h x (by simpa [csP] using hx)
theorem wpList_load41m {ops : Array Oper} {rest : List Oper} {o : Oper} {a : Act} {w : World} {Q : Exit → Act → World → Prop} (hw : Region.wanted o (yielded ops a.tmps) = true) (x : Operand) (ho : o.op = .load 41 x)
    (g k : Nat) (hx : a.eval x = .pointer (some ⟨g, k, none⟩)) (s : Oq) (hc : w.rangeAt g k s.cells) (ha : Ad s.x.p) (h : wpList Tryz.prog ops Q rest (a.put o.dst (.agg (csO s))) w) : wpList Tryz.prog ops Q (o :: rest) a w :=
  BigFrame.wpList_want hw fun K hK => wp_load_mid 41 x ho g k hx s.cells _ hc Tryz.underlying41 rfl (by rw [oq_len ha]; exact info41) (hK _ _ h)
theorem wpList_alloc41 {ops : Array Oper} {rest : List Oper} {o : Oper} {a : Act} {w : World} {Q : Exit → Act → World → Prop} (hg : o.guard = none) (ho : o.op = .alloc 41)
    (h : ∀ g w1, w.heap.size ≤ g → BoxO w1 g zeroO → Away [] w w1 → wpList Tryz.prog ops Q rest (a.put o.dst (.pointer (some ⟨g, 0, none⟩))) w1) : wpList Tryz.prog ops Q (o :: rest) a w := by
  have hz : (zeroValue 41).run Tryz.prog w = .ok (.agg (csO zeroO)) w := by
    have := zero41
    cases hi : Tryz.prog.info? 41 with
    | none => rw [hi] at this; simp at this
    | some i => rw [hi] at this; simp at this; simp [zeroValue, typeInfo, hi, this]
  refine wpList_plain hg fun K hK => ?_
  unfold Oper.wp execOp
  simp only [ho, Sem.run_bind, Instr.alloc, hz, newVar, newRow, run_newObj_alloc, Sem.run_pure, Result.andThen_ok]
  exact hK _ _ (h w.heap.size _ (Nat.le_refl _) (block_new _ _) ((Away.refl [] w).alloc _))
theorem wpList_store41 {ops : Array Oper} {rest : List Oper} {o : Oper} {a : Act} {w : World} {Q : Exit → Act → World → Prop} (hw : Region.wanted o (yielded ops a.tmps) = true) (x y : Operand) (ho : o.op = .store 41 x y)
    (g : Nat) (hx : a.eval x = .pointer (some ⟨g, 0, none⟩)) (s : Oq) (hy : a.eval y = .agg (csO s)) (hb : BoxO w g zeroO) (ha : Ad s.x.p) (h1 : s.x.o.oneCell' = true) (h2 : s.x.d.oneCell' = true)
    (h : ∀ w1, BoxO w1 g s → Away [g] w w1 → wpList Tryz.prog ops Q rest (a.put o.dst undef) w1) : wpList Tryz.prog ops Q (o :: rest) a w :=
  BigFrame.wpList_want hw fun K hK => wp_store_row 41 x y ho g (csO s) hx hy 41 (csO zeroO) hb (by rw [csO_size ha]; exact info41) (by rw [csO_size ha, csO_size (o := zeroO) ⟨rfl, rfl⟩]) (csO_one s h1 h2) (hK _ _ (h _ (by
    unfold BoxO at hb ⊢; simp [World.setRow, Array.getElem?_modify, hb]) ((Away.refl [g] w).setRow (.inl (by simp)) _)))
theorem BoxO.k {w : World} {g : Nat} {o : Oq} (h : BoxO w g o) : w.cell? ⟨g, 0, none⟩ = some (.int .i64 o.k) := by rw [cell_of_block h]; rfl
theorem BoxO.t {w : World} {g : Nat} {o : Oq} (h : BoxO w g o) (ha : Ad o.x.p) : w.cell? ⟨g, 51, none⟩ = some (.int .i64 o.t) := by
  rw [cell_of_block h]
  simp only [csO, List.getElem?_toArray, Oq.cells]
  have hl := listP_len ha o.x.o o.x.d
  simp only [List.getElem?_cons_succ]
  rw [List.getElem?_append_right (by omega), hl]
  rfl
theorem BoxO.row {w : World} {g : Nat} {o : Oq} (h : BoxO w g o) : w.rangeAt g 5 (listP o.x.p o.x.o o.x.d) := fun j v hj => by
  rw [cell_of_block h]
  simp only [csO, List.getElem?_toArray, Oq.cells]
  rw [show 5 + j = j + 1 + 1 + 1 + 1 + 1 from by omega]
  simp only [List.getElem?_cons_succ]
  rw [List.getElem?_append_left (List.getElem?_eq_some_iff.1 hj).1]
  exact hj
theorem BoxO.on {w w' : World} {g : Nat} {o : Oq} (h : BoxO w g o) (hw : Away [] w w') : BoxO w' g o := hw.keep (by simp) h
theorem BoxO.lt {w : World} {g : Nat} {o : Oq} (h : BoxO w g o) : g < w.heap.size := lt_of_block h
/-! A quota's variable. -/
def BoxQ (w : World) (g : Nat) (q : Qo) : Prop := w.heap[g]? = some (.cells #[.int .i64 q.e, .int .i64 q.b, .int .i64 q.h, .int .i64 q.t] 23 (0, 0))
theorem info23 : (Tryz.prog.info? 23).map (·.size) = some 4 := by kernel_rfl
theorem q_one (q : Qo) : (#[Value.int IntKind.i64 q.e, Value.int IntKind.i64 q.b, Value.int IntKind.i64 q.h, Value.int IntKind.i64 q.t] : Array Value).all (·.oneCell') = true := by
  rw [Array.all_eq_true_iff_forall_mem]
  intro x hx
  simp only [List.mem_toArray, List.mem_cons, List.not_mem_nil, or_false] at hx
  rcases hx with rfl | rfl | rfl | rfl <;> rfl
theorem wpList_load23 {ops : Array Oper} {rest : List Oper} {o : Oper} {a : Act} {w : World} {Q : Exit → Act → World → Prop} (hw : Region.wanted o (yielded ops a.tmps) = true) (x : Operand) (ho : o.op = .load 23 x)
    (g : Nat) (hx : a.eval x = .pointer (some ⟨g, 0, none⟩)) (q : Qo) (hb : BoxQ w g q) (h : wpList Tryz.prog ops Q rest (a.put o.dst (valQ q)) w) : wpList Tryz.prog ops Q (o :: rest) a w :=
  BigFrame.wpList_want hw fun KK hK => wp_load_row 23 x ho g hx 23 _ (0, 0) _ hb Tryz.underlying23 rfl (by exact info23) (hK _ _ h)
theorem wpList_store23 {ops : Array Oper} {rest : List Oper} {o : Oper} {a : Act} {w : World} {Q : Exit → Act → World → Prop} (hw : Region.wanted o (yielded ops a.tmps) = true) (x y : Operand) (ho : o.op = .store 23 x y)
    (g : Nat) (hx : a.eval x = .pointer (some ⟨g, 0, none⟩)) (q : Qo) (hy : a.eval y = valQ q) (q' : Qo) (hb : BoxQ w g q')
    (h : ∀ w1, BoxQ w1 g q → Away [g] w w1 → wpList Tryz.prog ops Q rest (a.put o.dst undef) w1) : wpList Tryz.prog ops Q (o :: rest) a w :=
  BigFrame.wpList_want hw fun K hK => wp_store_row 23 x y ho g #[.int .i64 q.e, .int .i64 q.b, .int .i64 q.h, .int .i64 q.t] hx hy 23 _ hb (by exact info23) (by rfl) (q_one q) (hK _ _ (h _ (by
    unfold BoxQ at hb ⊢; simp [World.setRow, Array.getElem?_modify, hb]) ((Away.refl [g] w).setRow (.inl (by simp)) _)))
/-! Lists of int64 of the call's own. -/
def LJ (w : World) (v : Value) (l : List Int) : Prop := w.ownsRow 0 2 1 v l.length (l.map (Value.int .i64))
theorem LJ.away {S : List Nat} {w w' : World} {v : Value} {l : List Int} (h : LJ w v l) (hw : Away S w w') (ha : ∀ k, v.ownBlock = some k → k ∉ S) : LJ w' v l := by
  rcases h with ⟨h1, h2⟩
  refine ⟨h1, ?_⟩
  rcases h2 with ⟨rfl, h2⟩ | ⟨g, cap, cur, rfl, hg, hh, hr⟩
  · exact .inl ⟨rfl, h2⟩
  · exact .inr ⟨g, cap, cur, rfl, hg, hw.keep (ha g rfl) hh, hr⟩
theorem LJ.on {w w' : World} {v : Value} {l : List Int} (h : LJ w v l) (hw : Away [] w w') : LJ w' v l := h.away hw (by simp)
theorem LJ.nil (w : World) : LJ w (.slice none 0 0) [] := World.ownsRow_nil _ _ _ _
theorem LJ.lt {w : World} {v : Value} {l : List Int} (h : LJ w v l) : ∀ k, v.ownBlock = some k → k < w.heap.size := fun k hk => (World.ownsRow.lt h k hk).2
theorem LJ.sl {w : World} {v : Value} {l : List Int} (h : LJ w v l) : ∃ a cap, v = .slice a l.length cap ∧ ∀ (i : Nat) (x : Int), l[i]? = some x → ∃ g, a = some ⟨g, 0, none⟩ ∧ w.cell? ⟨g, i, none⟩ = some (.int .i64 x) := by
  have h0 := h
  rcases h.2 with ⟨rfl, h2⟩ | ⟨g, cap, cur, rfl, hg, hh, hn, -⟩
  · have : l = [] := by simpa using h2
    subst this
    exact ⟨none, 0, rfl, by simp⟩
  · refine ⟨_, cap, rfl, fun i x hx => ⟨g, rfl, ?_⟩⟩
    have hi : i < l.length := (List.getElem?_eq_some_iff.1 hx).1
    rw [World.ownsRow.cellAt h0 i (by simpa using hi)]
    simp [hx]
theorem infoJ : (Tryz.prog.info? 2).map (fun i => (i.zero, i.size, i.bytes)) = some (some (.int .i64 0), 1, 8) := by kernel_rfl
theorem run_appJ (ty : TypeId) (w : World) (v : Value) (l : List Int) (hown : LJ w v l) (ad : Addr) (m cp : Nat) (M : List Int) (hM : M.length = m) (hc : ∀ (j : Nat) (x : Int), M[j]? = some x → w.cell? (ad.add j) = some (.int .i64 x)) (hk : l.length + m ≤ 17592186044416) :
    ∃ v' w', (Builtin.append_ #[32, 32] ty #[v, .slice (some ad) m cp]).run Tryz.prog w = .ok v' w' ∧ LJ w' v' (l ++ M) ∧ w.grownBy w' v.ownBlock ∧ Moved w v v' := by
  obtain ⟨i0, hi, hz0, hz1, hz2⟩ := info_parts infoJ
  obtain ⟨v', w', h1, h2, h3, h4⟩ := run_appN 32 ty 2 i0 _ 8 1 Tryz.underlying32 hi hz0 hz1 hz2 rfl (by decide) w v l.length (l.map (Value.int .i64)) hown ad m cp (M.map (Value.int .i64)) (by simp [hM]) (fun j u hj => by
    simp only [List.getElem?_map, Option.map_eq_some_iff] at hj
    obtain ⟨x, hx, rfl⟩ := hj
    exact hc j x hx) (fun u hu => by simp at hu; obtain ⟨x, -, rfl⟩ := hu; rfl) (by unfold maxLen; omega) (by omega)
  refine ⟨v', w', h1, ?_, h3, h4⟩
  unfold LJ
  rw [List.length_append, List.map_append, hM]
  exact h2
theorem wpList_appJ {w : World} {ops : Array Oper} {rest : List Oper} {o : Oper} {a : Act} {Q : Exit → Act → World → Prop} (hgd : o.guard = none) (s t : Operand)
    (ho : o.op = .call { callee := .builtin .append, args := #[s, t], argTypes := #[32, 32] }) (v : Value) (l : List Int) (hs : a.eval s = v) (hown : LJ w v l)
    (ad : Addr) (m cp : Nat) (ht : a.eval t = .slice (some ad) m cp) (M : List Int) (hM : M.length = m) (hc : ∀ (j : Nat) (x : Int), M[j]? = some x → w.cell? (ad.add j) = some (.int .i64 x)) (hk : l.length + m ≤ 17592186044416)
    (h : ∀ v' w', LJ w' v' (l ++ M) → w.grownBy w' v.ownBlock → Moved w v v' → wpList Tryz.prog ops Q rest (a.put o.dst v') w') : wpList Tryz.prog ops Q (o :: rest) a w := by
  obtain ⟨v', w', hrun, r1, r2, r3⟩ := run_appJ o.type w v l hown ad m cp M hM hc hk
  refine wpList_plain hgd fun _ hK => ?_
  unfold Oper.wp
  simp [execOp, ho, resolve, invoke, builtin, hs, ht, hrun, Result.andThen]
  exact hK _ _ (h v' w' r1 r2 r3)
/-! Keys behind keys. -/
namespace K
theorem run_appLL (ty : TypeId) (w : World) (v u : Value) (xs ys : List Pk) (hown : LstK w v xs) (h : LstK w u ys) (hA : ∀ x ∈ ys, Ad x) (hk : xs.length + ys.length < 100000) :
    ∃ v' w', (Builtin.append_ #[31, 31] ty #[v, u]).run Tryz.prog w = .ok v' w' ∧ LstK w' v' (xs ++ ys) ∧ w.grownBy w' v.ownBlock ∧ Moved w v v' := by
  obtain ⟨i0, hi, hz0, hz1, hz2⟩ := info_parts infoK
  rcases h.shp with ⟨rfl, rfl⟩ | ⟨g, cap, rfl⟩
  · have hrun := run_append_owned_none (P := Tryz.prog) (w := w) 0 31 ty 55 i0 37 Tryz.underlying31 hi v _ _ hown
    exact ⟨v, w, hrun, by simpa using hown, ⟨rfl, rfl, rfl, Nat.le_refl _, fun _ _ _ => rfl⟩, Moved.refl _ _⟩
  · have hl := flatK_len ys hA
    obtain ⟨v', w', r1, r2, r3, r4⟩ := run_appN 31 ty 55 i0 _ 72 37 Tryz.underlying31 hi hz0 hz1 hz2 zK_size (by decide) w v xs.length (xs.flatMap listK) hown ⟨g, 0, none⟩ ys.length cap (ys.flatMap listK) hl (fun j u hj => by
      rw [add_plain, Nat.zero_add, World.ownsRow.cellAt h j (by have := (List.getElem?_eq_some_iff.1 hj).1; omega)]; exact hj) (flatK_one ys) (by unfold maxLen; omega) (by omega)
    refine ⟨v', w', r1, ?_, r3, r4⟩
    unfold LstK
    rw [List.flatMap_append, List.length_append]
    exact r2
end K
theorem wpList_appKK {ops : Array Oper} {rest : List Oper} {o : Oper} {a : Act} {w : World} {Q : Exit → Act → World → Prop} (hg : o.guard = none) (s t : Operand) (ho : o.op = .call { callee := .builtin .append, args := #[s, t], argTypes := #[31, 31] })
    (v u : Value) (xs ys : List Pk) (hs : a.eval s = v) (ht : a.eval t = u) (hown : K.LstK w v xs) (hsrc : K.LstK w u ys) (hA : ∀ x ∈ ys, Ad x) (hk : xs.length + ys.length < 100000)
    (h : ∀ v' w', K.LstK w' v' (xs ++ ys) → w.grownBy w' v.ownBlock → Moved w v v' → wpList Tryz.prog ops Q rest (a.put o.dst v') w') : wpList Tryz.prog ops Q (o :: rest) a w := by
  obtain ⟨v', w', hrun, r1, r2, r3⟩ := K.run_appLL o.type w v u xs ys hown hsrc hA hk
  refine wpList_plain hg fun KK hK => ?_
  unfold Oper.wp
  simp [execOp, ho, resolve, invoke, builtin, hs, ht, hrun, Result.andThen]
  exact hK _ _ (h v' w' r1 r2 r3)
/-- What the law's loop holds: the table, the book of what stood behind the call before, and blocks of the law's own. -/
structure Wi (w0 w : World) (gt mb : Nat) (ov : Value) (q : Qo) (t : Int) (cs : List Cel) (kv bv : Value) (bk : List Cel) (F : List Nat) : Prop where
  tab : Tab w gt mb ov q t cs
  keep : Keep q t cs
  time : 0 ≤ t ∧ t ≤ 1099511627776
  new : ∀ z ∈ fpT gt mb ov cs, w0.heap.size ≤ z
  aw : Away [] w0 w
  kl : K.LstK w kv (bk.map (·.s.k))
  bl : LJ w bv (bk.map (·.s.tb))
  ka : ∀ x ∈ bk.map (·.s.k), Wf x
  kn : ∀ z, kv.ownBlock = some z → w0.heap.size ≤ z ∧ z ∉ fpT gt mb ov cs
  bn : ∀ z, bv.ownBlock = some z → w0.heap.size ≤ z ∧ z ∉ fpT gt mb ov cs
  kb : bk.Pairwise (fun a b => kyB a.s.k b.s.k = false)
  bk' : bk.length ≤ 64
  out : ∀ z ∈ F, z < w.heap.size ∧ w0.heap.size ≤ z ∧ z ∉ fpT gt mb ov cs ∧ kv.ownBlock ≠ some z ∧ bv.ownBlock ≠ some z
section
variable {w0 w w' : World} {gt mb : Nat} {ov : Value} {q : Qo} {t : Int} {cs bk : List Cel} {kv bv : Value} {F : List Nat}
theorem Wi.on (h : Wi w0 w gt mb ov q t cs kv bv bk F) (hw : Away [] w w') : Wi w0 w' gt mb ov q t cs kv bv bk F := ⟨h.tab.on hw, h.keep, h.time, h.new, h.aw.trans hw, h.kl.on hw, h.bl.on hw, h.ka, h.kn, h.bn, h.kb, h.bk', fun z hz => ⟨Nat.lt_of_lt_of_le (h.out z hz).1 hw.size, (h.out z hz).2⟩⟩
theorem Wi.add (h : Wi w0 w gt mb ov q t cs kv bv bk F) (hw : Away [] w w') {g : Nat} (hg : w.heap.size ≤ g) (hl : g < w'.heap.size) : Wi w0 w' gt mb ov q t cs kv bv bk (g :: F) :=
  have h1 := h.on hw
  ⟨h1.tab, h1.keep, h1.time, h1.new, h1.aw, h1.kl, h1.bl, h1.ka, h1.kn, h1.bn, h1.kb, h1.bk', fun z hz => by
    rcases List.mem_cons.1 hz with rfl | hz
    · exact ⟨hl, Nat.le_trans h.aw.size hg, fun hm => by have := h.tab.lt _ hm; omega, fun e => by have := h.kl.lt _ e; omega, fun e => by have := h.bl.lt _ e; omega⟩
    · exact h1.out z hz⟩
theorem Wi.store (h : Wi w0 w gt mb ov q t cs kv bv bk F) {g : Nat} (hg : g ∈ F) (hw : Away [g] w w') : Wi w0 w' gt mb ov q t cs kv bv bk F :=
  have h1 := h.out g hg
  ⟨h.tab.away hw (fun z hz e => by simp at e; subst e; exact h1.2.2.1 hz), h.keep, h.time, h.new, h.aw.next hw (fun z hz => by simp at hz; subst hz; exact .inr h1.2.1), h.kl.away hw (fun z hz e => by simp at e; subst e; exact h1.2.2.2.1 hz), h.bl.away hw (fun z hz e => by simp at e; subst e; exact h1.2.2.2.2 hz), h.ka, h.kn, h.bn, h.kb, h.bk',
    fun z hz => ⟨Nat.lt_of_lt_of_le (h.out z hz).1 hw.size, (h.out z hz).2⟩⟩
theorem Wi.less {G : List Nat} (h : Wi w0 w gt mb ov q t cs kv bv bk F) (hs : ∀ z ∈ G, z ∈ F) : Wi w0 w gt mb ov q t cs kv bv bk G := ⟨h.tab, h.keep, h.time, h.new, h.aw, h.kl, h.bl, h.ka, h.kn, h.bn, h.kb, h.bk', fun z hz => h.out z (hs z hz)⟩
theorem Wi.ge (h : Wi w0 w gt mb ov q t cs kv bv bk F) : ∀ c ∈ cs, 0 ≤ c.s.h := fun c hc => (ey_h (h.tab.ent c hc)).1
theorem Wi.born (h : Wi w0 w gt mb ov q t cs kv bv bk F) : ∀ c ∈ cs, 0 ≤ c.s.tb ∧ c.s.tb ≤ t := fun c hc => ⟨(h.keep.tb c hc).1, (h.keep.tb c hc).2.1⟩
/-- Another call of the table. -/
theorem Wi.call (h : Wi w0 w gt mb ov q t cs kv bv bk F) {now : Int} {ov' : Value} {cs' : List Cel} (ht : Tab w' gt mb ov' q now cs') (hk : Keep q now cs') (hn : 0 ≤ now ∧ now ≤ 1099511627776) (hf : ∀ z ∈ fpT gt mb ov' cs', z ∈ fpT gt mb ov cs ∨ w.heap.size ≤ z) (hw : Away (fpT gt mb ov cs) w w') :
    Wi w0 w' gt mb ov' q now cs' kv bv bk F :=
  ⟨ht, hk, hn, fun z hz => by
      rcases hf z hz with h1 | h1
      · exact h.new z h1
      · exact Nat.le_trans h.aw.size h1, h.aw.next hw (fun z hz => .inr (h.new z hz)), h.kl.away hw (fun z hz => (h.kn z hz).2), h.bl.away hw (fun z hz => (h.bn z hz).2), h.ka,
    fun z hz => ⟨(h.kn z hz).1, fun hm => by
      rcases hf z hm with h1 | h1
      · exact (h.kn z hz).2 h1
      · have := h.kl.lt z hz; omega⟩,
    fun z hz => ⟨(h.bn z hz).1, fun hm => by
      rcases hf z hm with h1 | h1
      · exact (h.bn z hz).2 h1
      · have := h.bl.lt z hz; omega⟩, h.kb, h.bk',
    fun z hz => ⟨Nat.lt_of_lt_of_le (h.out z hz).1 hw.size, (h.out z hz).2.1, fun hm => by
      rcases hf z hm with h1 | h1
      · exact (h.out z hz).2.2.1 h1
      · have := (h.out z hz).1; omega, (h.out z hz).2.2.2⟩⟩
theorem rq_of2 {q : Qo} (h : rightQ q = true) : 0 ≤ q.e ∧ 0 ≤ q.b ∧ 0 ≤ q.h ∧ 1 ≤ q.t ∧ q.e ≤ 64 ∧ q.h ≤ 8192 ∧ q.b ≤ 1048576 ∧ q.t ≤ 1099511627776 := by
  unfold rightQ at h
  simp only [Bool.and_eq_true, decide_eq_true_eq] at h
  omega
/-- Behind a Put. -/
def WpR (w0 w : World) (gt mb : Nat) (q : Qo) (t now : Int) (kv bv : Value) (bk : List Cel) (F : List Nat) (p : Pk) (n : Int) (wn ln gn : Nat) (er : Int) : Prop :=
  (er = 1 ∧ (rgt2 p = false ∨ now < t ∨ 1099511627776 < now) ∧ n = 0 ∧ wn = 0 ∧ ln = 0 ∧ gn = 0 ∧ ∃ ov, Wi w0 w gt mb ov q t bk kv bv bk F) ∨
  (er = 0 ∧ (rgt2 p = true ∧ t ≤ now ∧ now ≤ 1099511627776) ∧ wn ≤ 1 ∧ ∃ ov cs, Wi w0 w gt mb ov q now cs kv bv bk F ∧ Leav q now bk p true cs)
section
variable {p : Pk} {now n er : Int} {wn ln gn : Nat}
theorem WpR.on (h : WpR w0 w gt mb q t now kv bv bk F p n wn ln gn er) (hw : Away [] w w') : WpR w0 w' gt mb q t now kv bv bk F p n wn ln gn er := by
  rcases h with ⟨h1, h2, h3, h4, h5, h6, ov, h7⟩ | ⟨h1, h2, h3, ov, cs, h7, h8⟩
  · exact .inl ⟨h1, h2, h3, h4, h5, h6, ov, h7.on hw⟩
  · exact .inr ⟨h1, h2, h3, ov, cs, h7.on hw, h8⟩
theorem WpR.add (h : WpR w0 w gt mb q t now kv bv bk F p n wn ln gn er) (hw : Away [] w w') {g : Nat} (hg : w.heap.size ≤ g) (hl : g < w'.heap.size) : WpR w0 w' gt mb q t now kv bv bk (g :: F) p n wn ln gn er := by
  rcases h with ⟨h1, h2, h3, h4, h5, h6, ov, h7⟩ | ⟨h1, h2, h3, ov, cs, h7, h8⟩
  · exact .inl ⟨h1, h2, h3, h4, h5, h6, ov, h7.add hw hg hl⟩
  · exact .inr ⟨h1, h2, h3, ov, cs, h7.add hw hg hl, h8⟩
theorem WpR.store (h : WpR w0 w gt mb q t now kv bv bk F p n wn ln gn er) {g : Nat} (hg : g ∈ F) (hw : Away [g] w w') : WpR w0 w' gt mb q t now kv bv bk F p n wn ln gn er := by
  rcases h with ⟨h1, h2, h3, h4, h5, h6, ov, h7⟩ | ⟨h1, h2, h3, ov, cs, h7, h8⟩
  · exact .inl ⟨h1, h2, h3, h4, h5, h6, ov, h7.store hg hw⟩
  · exact .inr ⟨h1, h2, h3, ov, cs, h7.store hg hw, h8⟩
end
/-- What Put tells the law. -/
def WputO (w0 w : World) (gt mb : Nat) (ov : Value) (q : Qo) (t now : Int) (kv bv : Value) (bk : List Cel) (F : List Nat) (p : Pk) (E : Ending) (w' : World) : Prop :=
  ∃ n wa wn wc la ln lc ga gn gc er, E = .returned (.tuple #[.agg (csTo n (.slice wa wn wc) (.slice la ln lc) (.slice ga gn gc)), .int .i64 er]) ∧ WpR w0 w' gt mb q t now kv bv bk F p n wn ln gn er ∧ Away (fpT gt mb ov bk) w w'
theorem Wi.put (h : Wi w0 w gt mb ov q t bk kv bv bk F) (hq : rightQ q = true) (hg : Glob w) (hN : 0 < w0.heap.size) {p : Pk} {po pd : Value} (hm : ∃ B, Mine w B p po pd ∧ ∀ z ∈ fpT gt mb ov bk, z < B) (hw : Wf p) (now : Int) :
    Calls Tryz.prog 10 #[.pointer (some ⟨gt, 0, none⟩), .agg (csP p po pd), .int .i64 now] w (WputO w0 w gt mb ov q t now kv bv bk F p) := by
  obtain ⟨B, hmi, hB⟩ := hm
  have hr := rq_of2 hq
  have hlen := h.keep.len
  have hin : PutIn w gt mb ov q t bk p po pd := ⟨h.tab, hg, hmi.pkt hw, ⟨fun _ k hk hm => by have h1 := (hmi.lto k (.inl hk)).2; have h2 := hB k hm; omega, fun _ k hk hm => by have h1 := (hmi.lto k (.inr hk)).2; have h2 := hB k hm; omega⟩, fun hm => by have := h.new 0 hm; omega, h.born, h.time, ⟨hr.1, hr.2.1⟩, by omega⟩
  refine (tput_c hin now).mono ?_
  rintro E w' (⟨hx, rfl, haw⟩ | ⟨⟨r1, r2, r3⟩, n', wv, lv, gv, ov', xs, ys, ks, cs', rfl, hcw, hcl, hgk, hgn, hys, htab', hres, hfp, haw⟩)
  · exact ⟨0, none, 0, 0, none, 0, 0, none, 0, 0, 1, rfl, .inl ⟨rfl, hx, rfl, rfl, rfl, rfl, ov, h.on haw⟩, haw.mono (by simp)⟩
  · have hnow : 0 ≤ now := by have := h.time; omega
    obtain ⟨hk, hf⟩ := h.keep.res h.ge ⟨hr.1, hr.2.1, hr.2.2.1, hr.2.2.2.1⟩ r2 hnow hres
    have hlv := leav_put h.keep hres hf
    have hxl : xs.length ≤ 1 := by have := res_len hres; rwa [List.length_map] at this
    have hyl : ys.length ≤ bk.length := by have h1 := told_len q now bk; rw [← hys, List.length_map] at h1; exact h1
    obtain ⟨a1, c1, rfl, -⟩ := hcw.pks (by omega)
    obtain ⟨a2, c2, rfl, -⟩ := hcl.pks (by omega)
    obtain ⟨a3, n3, c3, rfl⟩ := lstk_shp hgk
    exact ⟨n', a1, xs.length, c1, a2, ys.length, c2, a3, n3, c3, 0, rfl, .inr ⟨rfl, ⟨r1, r2, r3⟩, hxl, ov', cs', h.call htab' hk ⟨hnow, r3⟩ hfp haw, hlv⟩, haw⟩
/-- Behind a Tick. -/
def WtR (w0 w : World) (gt mb : Nat) (q : Qo) (t now : Int) (kv bv : Value) (bk : List Cel) (F : List Nat) (ln : Nat) (er : Int) : Prop :=
  (er = 1 ∧ (now < t ∨ 1099511627776 < now) ∧ ln = 0 ∧ ∃ ov, Wi w0 w gt mb ov q t bk kv bv bk F) ∨
  (er = 0 ∧ (t ≤ now ∧ now ≤ 1099511627776) ∧ ln ≤ bk.length ∧ ∃ ov cs, Wi w0 w gt mb ov q now cs kv bv bk F ∧ ∀ p, Leav q now bk p false cs)
theorem WtR.add {now er : Int} {ln : Nat} (h : WtR w0 w gt mb q t now kv bv bk F ln er) (hw : Away [] w w') {g : Nat} (hg : w.heap.size ≤ g) (hl : g < w'.heap.size) : WtR w0 w' gt mb q t now kv bv bk (g :: F) ln er := by
  rcases h with ⟨h1, h2, h3, ov, h7⟩ | ⟨h1, h2, h3, ov, cs, h7, h8⟩
  · exact .inl ⟨h1, h2, h3, ov, h7.add hw hg hl⟩
  · exact .inr ⟨h1, h2, h3, ov, cs, h7.add hw hg hl, h8⟩
theorem WtR.store {now er : Int} {ln : Nat} (h : WtR w0 w gt mb q t now kv bv bk F ln er) {g : Nat} (hg : g ∈ F) (hw : Away [g] w w') : WtR w0 w' gt mb q t now kv bv bk F ln er := by
  rcases h with ⟨h1, h2, h3, ov, h7⟩ | ⟨h1, h2, h3, ov, cs, h7, h8⟩
  · exact .inl ⟨h1, h2, h3, ov, h7.store hg hw⟩
  · exact .inr ⟨h1, h2, h3, ov, cs, h7.store hg hw, h8⟩
/-- What Tick tells the law. -/
def WtickO (w0 w : World) (gt mb : Nat) (ov : Value) (q : Qo) (t now : Int) (kv bv : Value) (bk : List Cel) (F : List Nat) (E : Ending) (w' : World) : Prop :=
  ∃ la ln lc er, E = .returned (.tuple #[.agg (csTo 0 nilV (.slice la ln lc) nilV), .int .i64 er]) ∧ WtR w0 w' gt mb q t now kv bv bk F ln er ∧ Away (fpT gt mb ov bk) w w'
theorem Wi.tick (h : Wi w0 w gt mb ov q t bk kv bv bk F) (now : Int) :
    Calls Tryz.prog 15 #[.pointer (some ⟨gt, 0, none⟩), .int .i64 now] w (WtickO w0 w gt mb ov q t now kv bv bk F) := by
  refine (tick_c h.tab h.born h.time now).mono ?_
  rintro E w' (⟨hx, rfl, haw⟩ | ⟨⟨r1, r2⟩, v, xs, ov', rfl, hcu, hm, htab, hob, haw⟩)
  · exact ⟨none, 0, 0, 1, rfl, .inl ⟨rfl, hx, rfl, ov, h.on haw⟩, haw.mono (by simp)⟩
  · have hnow : 0 ≤ now := by have := h.time; omega
    have hlen := h.tab.len
    have hxl : xs.length ≤ bk.length := by have h1 := told_len q now bk; rw [← hm, List.length_map] at h1; exact h1
    obtain ⟨a2, c2, rfl, -⟩ := hcu.pks (by omega)
    have haw' : Away (fpT gt mb ov bk) w w' := haw.mono (fun z hz => by
      simp only [List.mem_cons, Option.mem_toList] at hz
      rcases hz with rfl | rfl | hz
      · exact mem_fpT.2 (.inl rfl)
      · exact mem_fpT.2 (.inr (.inl rfl))
      · exact mem_fpT.2 (.inr (.inr (.inl hz))))
    have hz : ∀ z ∈ fpT gt mb ov' (bk.dropWhile (lateB q now)), z ∈ fpT gt mb ov bk ∨ w.heap.size ≤ z := fun z hz => by
      rcases mem_fpT.1 hz with rfl | rfl | h1 | ⟨c, hc, h1⟩
      · exact .inl (mem_fpT.2 (.inl rfl))
      · exact .inl (mem_fpT.2 (.inr (.inl rfl)))
      · rw [hob] at h1; exact .inl (mem_fpT.2 (.inr (.inr (.inl h1))))
      · exact .inl (mem_fpT.2 (.inr (.inr (.inr ⟨c, (List.dropWhile_sublist _).subset hc, h1⟩))))
    exact ⟨a2, xs.length, c2, 0, rfl, .inr ⟨rfl, ⟨r1, r2⟩, hxl, ov', _, h.call htab (h.keep.late h.ge r1) ⟨hnow, r2⟩ hz haw', fun p => leav_tick p h.keep⟩, haw'⟩
/-- The book of what stands now. -/
theorem Wi.book (h : Wi w0 w gt mb ov q t cs kv bv bk F) {kv' bv' : Value} (hq : rightQ q = true) (hk : K.LstK w kv' (cs.map (·.s.k))) (hb : LJ w bv' (cs.map (·.s.tb))) (h1 : ∀ z, kv'.ownBlock = some z → w0.heap.size ≤ z ∧ z ∉ fpT gt mb ov cs) (h2 : ∀ z, bv'.ownBlock = some z → w0.heap.size ≤ z ∧ z ∉ fpT gt mb ov cs) :
    Wi w0 w gt mb ov q t cs kv' bv' cs [] :=
  ⟨h.tab, h.keep, h.time, h.new, h.aw, hk, hb, fun x hx => by obtain ⟨c, hc, rfl⟩ := List.mem_map.1 hx; exact h.tab.kwf c hc, h1, h2, h.tab.dist, by have h3 := h.keep.len; have h4 := rq_of2 hq; omega, by simp⟩
end
end Go.Proofs.YtkccpidgeecemaaGreatDoor
