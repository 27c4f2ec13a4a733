/-
  TableLate, plain: what has come, by marks.
-/
import Derived.Test.YtkccpidgeecemaaGreatDoorJtA
import Derived.Test.YtkccpidgeecemaaGreatDoorTwA
namespace Go.Proofs.YtkccpidgeecemaaGreatDoor
open Go.ChangeShapes Go.WideShapes Go.ChangeAt Go.RowKit Num
set_option linter.unusedVariables false
set_option linter.unusedSimpArgs false
set_option maxHeartbeats 4000000
set_option maxRecDepth 100000
namespace R
def basQ (p : Pk) (id : Int) : Pk := if p.v = 6 then { p with frag := true, id := id } else p
theorem basQ_d (p : Pk) (id : Int) : (basQ p id).d = p.d ∧ (basQ p id).v = p.v ∧ (basQ p id).off = p.off ∧ (basQ p id).more = p.more := by unfold basQ; split <;> exact ⟨rfl, rfl, rfl, rfl⟩
theorem part_bas (p : Pk) (f t : Nat) (id : Int) : partQ p f t id = { basQ p id with off := (f : Int), more := decide (t < p.d.length), d := (p.d.drop f).take (t - f) } := by
  unfold partQ basQ pieceP
  split <;> rfl
theorem parts_in {p : Pk} {id : Int} : ∀ {l : List Nat}, l.Pairwise (fun a b => b < a) → (∀ c ∈ l, 0 < c) → ∀ {y : Pk}, y ∈ partsTo p id l →
    ∃ f t, y = partQ p f t id ∧ f < t ∧ t ≤ l.headD 0 ∧ (t = l.headD 0 → f = l.tail.headD 0) ∧ (f = 0 ∨ f ∈ l) ∧ t ∈ l
  | [], _, _, y, h => by simp [partsTo] at h
  | c :: r, hp, h0, y, h => by
    rw [partsTo] at h
    rw [List.pairwise_cons] at hp
    rcases List.mem_append.1 h with h | h
    · obtain ⟨f, t, h1, h2, h3, h4, h5, h6⟩ := parts_in hp.2 (fun e he => h0 e (by simp [he])) h
      cases r with
      | nil => simp [partsTo] at h
      | cons e r =>
        have he := hp.1 e (by simp)
        simp only [List.headD_cons] at h3 h4 ⊢
        exact ⟨f, t, h1, h2, by omega, fun ht => by omega, h5.imp (fun h => h) (fun h => by simp [h]), by simp [h6]⟩
    · have h := List.mem_singleton.1 h
      refine ⟨r.headD 0, c, h, ?_, by simp, fun _ => rfl, ?_, by simp⟩
      · cases r with
        | nil => simpa using h0 c (by simp)
        | cons e r => exact hp.1 e (by simp)
      · cases r with
        | nil => exact .inl rfl
        | cons e r => exact .inr (by simp)
theorem parts_ap {p : Pk} {id : Int} : ∀ {l : List Nat}, l.Pairwise (fun a b => b < a) → (∀ c ∈ l, 0 < c ∧ c ≤ p.d.length) → ∀ a ∈ partsTo p id l, ∀ b ∈ partsTo p id l, a = b ∨ a.off + (a.d.length : Int) ≤ b.off ∨ b.off + (b.d.length : Int) ≤ a.off
  | [], _, _, a, h, _, _ => by simp [partsTo] at h
  | c :: r, hp, h0, a, ha, b, hb => by
    have hp2 := hp
    rw [List.pairwise_cons] at hp
    have hr0 : ∀ e ∈ r, 0 < e ∧ e ≤ p.d.length := fun e he => h0 e (by simp [he])
    have key : ∀ u ∈ partsTo p id r, u.off + (u.d.length : Int) ≤ (partQ p (r.headD 0) c id).off := fun u hu => by
      obtain ⟨f, t, rfl, h2, h3, -, -, h6⟩ := parts_in hp.2 (fun e he => (hr0 e he).1) hu
      rw [part_len p f t id (hr0 t h6).2, part_bas, part_bas]
      show (f : Int) + ((t - f : Nat) : Int) ≤ ((r.headD 0 : Nat) : Int)
      omega
    rw [partsTo] at ha hb
    rcases List.mem_append.1 ha with ha | ha
    · rcases List.mem_append.1 hb with hb | hb
      · exact parts_ap hp.2 hr0 a ha b hb
      · have hb := List.mem_singleton.1 hb; rw [hb]; exact .inr (.inl (key a ha))
    · have ha := List.mem_singleton.1 ha
      rcases List.mem_append.1 hb with hb | hb
      · rw [ha]; exact .inr (.inr (key b hb))
      · have hb := List.mem_singleton.1 hb; exact .inl (ha.trans hb.symm)
theorem parts_pcx {p : Pk} {id : Int} {r : List Nat} {b : Nat} (h : Whl p) (hw : Wf p) (hid : 0 ≤ id ∧ id ≤ 4294967295) (hr : Cps r b p.d.length) (hn : r ≠ []) : Pcx (basQ p id) (partsTo p id (p.d.length :: r)) := by
  have hpos : 0 < p.d.length := by
    cases r with
    | nil => exact absurd rfl hn
    | cons c r => have := hr.in' c (by simp); omega
  have hpw : (p.d.length :: r).Pairwise (fun a b => b < a) := List.pairwise_cons.2 ⟨fun c hc => (hr.in' c hc).2.2.1, hr.fall⟩
  have h0 : ∀ c ∈ p.d.length :: r, 0 < c ∧ c ≤ p.d.length := fun c hc => by
    rcases List.mem_cons.1 hc with rfl | hc
    · exact ⟨hpos, Nat.le_refl _⟩
    · have := hr.in' c hc; omega
  obtain ⟨e1, e2, e3, e4⟩ := basQ_d p id
  refine ⟨fun y hy => ?_, parts_ap hpw h0, fun y hy => ?_⟩
  · obtain ⟨f, t, rfl, h1, h2, h3, h4⟩ := parts_of (fun c hc => by
      rcases List.mem_cons.1 hc with rfl | hc
      · exact ⟨.inl rfl, Nat.le_refl _, hpos⟩
      · have := hr.in' c hc; exact ⟨.inr this.1, by omega, this.2.1⟩) (fun c hc => (hr.in' c (by simpa using hc)).1) hpw hy
    have hl := part_len p f t id h2
    have hrg := part_rgt (id := id) h h1 h2 h3 h4
    have hwf := partq_wf hw h.o h1 h2 (by have := h.len; omega) hid.1 hid.2
    have hb := part_bas p f t id
    refine ⟨⟨by rw [hb], by rw [hb], by rw [hb], by rw [hb], by rw [hb], by rw [hb], by rw [hb], hwf, hrg⟩, ?_, ?_, fun i hi => ?_, fun hm => ?_⟩
    · rw [hb]; show (0 : Int) ≤ (f : Int); omega
    · rw [hl, e1, hb]; show (f : Int) + ((t - f : Nat) : Int) ≤ _; omega
    · rw [hl] at hi
      rw [e1, hb]
      show ((p.d.drop f).take (t - f))[i]? = p.d[((f : Int)).toNat + i]?
      rw [List.getElem?_take, if_pos hi, List.getElem?_drop]
      congr 1
    · rw [hb] at hm
      have hm2 : decide (t < p.d.length) = false := hm
      rw [decide_eq_false_iff_not] at hm2
      rw [hl, e1, hb]
      show (f : Int) + ((t - f : Nat) : Int) = _
      omega
  · obtain ⟨f, t, rfl, h1, h2, h3, -, -⟩ := parts_in hpw (fun c hc => (h0 c hc).1) hy
    rw [part_bas]
    show (decide ((0 : Int) < (f : Int)) || decide (t < p.d.length)) = true
    simp only [List.headD_cons, List.tail_cons] at h2 h3
    by_cases ht : t = p.d.length
    · have hf := h3 ht
      have : 0 < f := by
        cases r with
        | nil => exact absurd rfl hn
        | cons c r => simp at hf; have := hr.in' c (by simp); omega
      rw [decide_eq_true (by omega), Bool.true_or]
    · rw [decide_eq_true (show t < p.d.length by omega), Bool.or_true]
theorem parts_length {p : Pk} {id : Int} : ∀ l : List Nat, (partsTo p id l).length = l.length
  | [] => rfl
  | c :: r => by rw [partsTo, List.length_append, parts_length r]; rfl
theorem parts_zero {p : Pk} {id : Int} : ∀ {l : List Nat}, l ≠ [] → ∃ y, (partsTo p id l)[0]? = some y ∧ y.off = 0
  | [], h => absurd rfl h
  | c :: r, _ => by
    rw [partsTo]
    cases r with
    | nil => exact ⟨_, rfl, by rw [part_bas]; rfl⟩
    | cons e r =>
      obtain ⟨y, h1, h2⟩ := parts_zero (p := p) (id := id) (l := e :: r) (by simp)
      have hl := parts_length (p := p) (id := id) (e :: r)
      exact ⟨y, by rw [List.getElem?_append_left (by rw [hl]; simp)]; exact h1, h2⟩
end R
end Go.Proofs.YtkccpidgeecemaaGreatDoor
namespace Go.Proofs.YtkccpidgeecemaaGreatDoor
set_option linter.unusedVariables false
set_option linter.unusedSimpArgs false
set_option maxRecDepth 20000
def apQ (now : Int) (a : Option Es) (p : Pk) : Int × List Pk × Option Es :=
  if isWhP p = true then (0, [dgP p], a)
  else if (putS (a.getD (newS p now)) p).1 = 6 then (6, [(wholeP (putS (a.getD (newS p now)) p).2).1], none)
  else if 8192 < holesN (putS (a.getD (newS p now)) p).2 then (4, [], some (poisS (putS (a.getD (newS p now)) p).2))
  else ((putS (a.getD (newS p now)) p).1, [], some (putS (a.getD (newS p now)) p).2)
theorem push_noQ {q : Qo} {cs : List Cel} (hq : 2 ≤ q.e ∧ 131070 ≤ q.b) (hl : cs.length ≤ 2) (hh : ∀ c ∈ cs, 0 ≤ c.s.h ∧ c.s.h ≤ 65535) : pushN q cs = 0 := by
  cases cs with
  | nil => rfl
  | cons c r =>
    rw [pushN, if_neg]
    unfold overB
    rw [Bool.or_eq_true, decide_eq_true_eq, decide_eq_true_eq]
    have h1 := hh c (by simp)
    have h2 : 0 ≤ sumC r ∧ sumC r ≤ 65535 := by
      cases r with
      | nil => simp [sumC]
      | cons d r =>
        have h3 := hh d (by simp)
        cases r with
        | nil => simp [sumC]; try omega
        | cons e r => simp at hl
    rw [sumC_cons]
    simp at hl
    have hq1 := hq.1; have hq2 := hq.2
    simp only [List.length_cons]
    omega
theorem res_mixQ {q : Qo} {now : Int} (hq : 2 ≤ q.e ∧ 131070 ≤ q.b ∧ q.h = 8192) {cs cs' : List Cel} {a b : Option Es} {p : Pk} {n : Int} {wh ks : List Pk} (hm : Mix (cs.map (·.s)) a b) (ha : ∀ s, a = some s → isWhP p = false → kyB p s.k = true) (hb : ∀ s, b = some s → kyB p s.k = false)
    (hs : ∀ s, a = some s ∨ b = some s → Hs s) (hw : Wf p) (h : Res q now cs p n wh ks cs') :
    n = (apQ now a p).1 ∧ wh = (apQ now a p).2.1 ∧ ks = [] ∧ Mix (cs'.map (·.s)) (apQ now a p).2.2 b := by
  rcases h with ⟨h1, rfl, rfl, rfl, rfl⟩ | ⟨h1, cs1, i, c, fp1, fp2, hc, ht⟩
  · unfold apQ
    rw [if_pos h1]
    exact ⟨rfl, rfl, rfl, hm⟩
  · have key : c.s = a.getD (newS p now) ∧ Hs c.s ∧ cs1.length ≤ 2 ∧ (∀ x ∈ cs1, Hs x.s) ∧ ∀ (x : Es) (g : Nat) (fp : List Nat), Mix ((cs1.set i ⟨x, g, fp⟩).map (·.s)) (some x) b ∧ Mix (((cs1.set i ⟨x, g, fp⟩).eraseIdx i).map (·.s)) none b := by
      have hl : cs.length ≤ 2 := by simpa using mix_len hm
      have hall : ∀ x ∈ cs, Hs x.s := fun x hx => hs _ ((mix_mem hm x.s).1 (List.mem_map_of_mem hx))
      rcases hc with ⟨rfl, h2, h3⟩ | ⟨h2, g, fp, rfl, rfl, rfl⟩
      · have h4 : (cs1.map (·.s))[i]? = some c.s := by rw [List.getElem?_map, h2]; rfl
        have h5 := (mix_mem hm c.s).1 (List.mem_of_getElem? h4)
        have h6 : b ≠ some c.s := fun e => by rw [hb _ e] at h3; simp at h3
        have h7 : a = some c.s := h5.resolve_right h6
        refine ⟨by rw [h7]; rfl, hall c (List.mem_of_getElem? h2), hl, hall, fun x g fp => ?_⟩
        have h8 := mix_at hm h7 h6 h4 x
        rw [show (cs1.set i ⟨x, g, fp⟩).map (·.s) = (cs1.map (·.s)).set i x from by rw [List.map_set], ]
        rw [show ((cs1.set i ⟨x, g, fp⟩).eraseIdx i).map (·.s) = ((cs1.map (·.s)).set i x).eraseIdx i from by rw [erase_map, List.map_set]]
        exact h8
      · have h3 : a = none := by
          cases ea : a with
          | none => rfl
          | some s =>
            have h4 := (mix_mem hm s).2 (.inl ea)
            obtain ⟨d, hd, hds⟩ := List.mem_map.1 h4
            have h5 := h2 d hd
            rw [hds, ha s ea h1] at h5
            simp at h5
        subst h3
        have hl1 : cs.length ≤ 1 := by
          have e : cs.map (·.s) = b.toList := by rcases hm with e | e <;> simpa using e
          have := congrArg List.length e
          rw [List.length_map] at this
          have h2 : b.toList.length ≤ 1 := by cases b <;> simp
          omega
        refine ⟨rfl, hs_new p now, by simp; omega, fun x hx => ?_, fun x g' fp' => ?_⟩
        · rcases List.mem_append.1 hx with hx | hx
          · exact hall x hx
          · simp at hx; subst hx; exact hs_new p now
        · have h8 := mix_new hm (newS p now) x
          have e2 : ((cs ++ [(⟨newS p now, g, fp⟩ : Cel)]).set cs.length ⟨x, g', fp'⟩).map (·.s) = ((cs.map (·.s)) ++ [newS p now]).set (cs.map (·.s)).length x := by rw [List.map_set, List.map_append, List.length_map]; rfl
          rw [erase_map, e2]
          rw [List.length_map] at h8 ⊢
          exact h8
    obtain ⟨k1, k2, k3, k4, k5⟩ := key
    have hno : ∀ x g fp, Hs x → pushN q (cs1.set i ⟨x, g, fp⟩) = 0 := fun x g fp hx => push_noQ ⟨hq.1, hq.2.1⟩ (by rw [List.length_set]; exact k3) (fun d hd => by
      rcases List.mem_or_eq_of_mem_set hd with h2 | rfl
      · exact (k4 d h2).1
      · exact hx.1)
    unfold takeC at ht
    unfold apQ
    rw [if_neg (by rw [h1]; simp), ← k1]
    have hp := hs_put k2 hw
    by_cases h6 : (putS c.s p).1 = 6
    · rw [if_pos h6] at ht ⊢
      injection ht with t1 t2 t3 t4
      exact ⟨t1.symm, t2.symm, t3.symm, by rw [← t4]; exact (k5 _ _ _).2⟩
    · rw [if_neg h6] at ht ⊢
      by_cases h7 : q.h < holesN (putS c.s p).2
      · rw [if_pos h7] at ht
        rw [if_pos (show 8192 < holesN (putS c.s p).2 by rw [hq.2.2] at h7; exact h7)]
        rw [hno _ _ _ (hs_pois _)] at ht
        injection ht with t1 t2 t3 t4
        exact ⟨t1.symm, t2.symm, by rw [← t3]; rfl, by rw [← t4, List.drop_zero]; exact (k5 _ _ _).1⟩
      · rw [if_neg h7] at ht
        rw [if_neg (show ¬ 8192 < holesN (putS c.s p).2 by rw [hq.2.2] at h7; exact h7)]
        rw [hno _ _ _ hp] at ht
        injection ht with t1 t2 t3 t4
        exact ⟨t1.symm, t2.symm, by rw [← t3]; rfl, by rw [← t4, List.drop_zero]; exact (k5 _ _ _).1⟩
end Go.Proofs.YtkccpidgeecemaaGreatDoor
namespace Go.Proofs.YtkccpidgeecemaaGreatDoor
open Go.ChangeShapes Go.WideShapes Go.ChangeAt Go.RowKit Num
set_option linter.unusedVariables false
set_option linter.unusedSimpArgs false
set_option maxHeartbeats 4000000
set_option maxRecDepth 100000
namespace R
theorem top_of (T : Int → Bool) : ∀ N : Nat, (∀ n : Int, (N : Int) ≤ n → T n = false) → ∃ k : Nat, k ≤ N ∧ (k = 0 ∨ T ((k : Int) - 1) = true) ∧ ∀ n : Int, (k : Int) ≤ n → T n = false
  | 0, h => ⟨0, Nat.le_refl _, .inl rfl, h⟩
  | N + 1, h => by
    by_cases ht : T (N : Int) = true
    · exact ⟨N + 1, Nat.le_refl _, .inr (by rw [show (((N + 1 : Nat) : Int) - 1) = (N : Int) from by omega]; exact ht), h⟩
    · obtain ⟨k, h1, h2, h3⟩ := top_of T N (fun n hn => by
        by_cases e : n = (N : Int)
        · rw [e]; simpa using ht
        · exact h n (by omega))
      exact ⟨k, by omega, h2, h3⟩
theorem Jn.few {x : Pk} {s : Es} {T : Int → Bool} {Y : Nat → Int} (h : Jn x s T Y) (hx : x.d.length ≤ 4000) : holesN s ≤ 8192 := by
  have hho := h.hd.iv.ho
  unfold holesN
  split
  · omega
  · by_cases he : s.e = -1
    · rw [he] at hho
      obtain ⟨k, h1, h2, h3⟩ := top_of T 4000 (fun n hn => by
        rw [Bool.eq_false_iff]
        intro ht
        have h0 : n = ((n.toNat : Nat) : Int) := by omega
        rw [h0] at ht
        have := (h.of _ ht).1
        omega)
      have h4 := H.holes_open hho (k := k) (by omega) h2 h3
      have h5 := cnt_le (H.gapB T) k
      omega
    · have h4 := H.holes_end hho he
      have h5 := cnt_le (H.gapB T) s.e.toNat
      have h6 := h.en
      omega
def La (x : Pk) (c D : List Pk) (a : Option Es) : Prop := (a = none ∧ D = []) ∨ ∃ s z T Y, a = some s ∧ z ∈ c ∧ Fed x z c D s T Y ∧ D ≠ []
theorem la_none (x : Pk) (c : List Pk) : La x c [] none := .inl ⟨rfl, rfl⟩
theorem frag_no {y : Pk} (h : (decide (0 < y.off) || y.more) = true) (h0 : 0 ≤ y.off) : isWhP y = false := by
  unfold isWhP
  rw [Bool.or_eq_true, decide_eq_true_eq] at h
  rw [Bool.and_eq_false_iff]
  rcases h with h | h
  · left; rw [decide_eq_false_iff_not]; omega
  · right; rw [h]; rfl
theorem La.put {x : Pk} {c D : List Pk} {a : Option Es} {now : Int} (h : La x c D a) (hv : x.v = 4 ∨ x.v = 6) (hx : x.d.length ≤ 4000) (hc : Pcx x c) {y : Pk} (hy : y ∈ c) (hl : ∃ u ∈ c, u ∉ y :: D) :
    ((apQ now a y).1 = 3 ∨ (apQ now a y).1 = 5) ∧ (apQ now a y).2.1 = [] ∧ La x c (y :: D) (apQ now a y).2.2 ∧ (∀ s', (apQ now a y).2.2 = some s' → s'.tb = (a.getD (newS y now)).tb) := by
  have hf := hc.frg y hy
  have hno := frag_no (hc.fr y hy) hf.o0
  obtain ⟨s, z, T, Y, hs, hz, hfd⟩ : ∃ s z T Y, a.getD (newS y now) = s ∧ z ∈ c ∧ Fed x z c D s T Y := by
    rcases h with ⟨rfl, rfl⟩ | ⟨s, z, T, Y, rfl, hz, hfd, -⟩
    · exact ⟨_, y, _, fun _ => 0, rfl, hy, fed_new now hf.kin _⟩
    · exact ⟨s, z, T, Y, rfl, hz, hfd⟩
  obtain ⟨h1, h2⟩ := hfd.put hv hx (hc.frg z hz).kin hc hy
  obtain ⟨u, hu, hun⟩ := hl
  have hnd := h2.less hc hu hun
  have hp : progN (putS s y).2 = 5 := by unfold progN; rw [hnd]; rfl
  have h35 : (putS s y).1 = 3 ∨ (putS s y).1 = 5 := by rw [hp] at h1; exact h1
  have hfew := h2.jx.jn.few hx
  have hkt := put_kt s y
  unfold apQ
  rw [if_neg (by rw [hno]; simp), hs, if_neg (by omega), if_neg (by omega)]
  exact ⟨h35, rfl, .inr ⟨_, z, _, _, rfl, hz, h2, by simp⟩, fun s' e => by injection e with e; rw [← e]; exact hkt.2⟩
theorem La.bad {x : Pk} {c D : List Pk} {a : Option Es} {now : Int} (h : La x c D a) (hx : x.d.length ≤ 4000) (hc : Pcx x c) {y b : Pk} (hy : y ∈ D) (hb : b = { y with d := b.d }) (hl : b.d.length = y.d.length) (hw : Wf b) (hr : rgt2 b = true) (hd : b.d[0]? ≠ y.d[0]?) :
    ∃ s, a = some s ∧ apQ now a b = (4, [], some (poisS s)) := by
  rcases h with ⟨-, rfl⟩ | ⟨s, z, T, Y, rfl, hz, hfd, -⟩
  · simp at hy
  · have hyc := hfd.sub y hy
    have hfr : (decide (0 < b.off) || b.more) = true := by
      have := hc.fr y hyc
      rw [hb]; exact this
    have h0 : 0 ≤ b.off := by rw [hb]; exact (hc.frg y hyc).o0
    have hp := hfd.bad hx (hc.frg z hz).kin hc hy hb hl hw hr hd
    refine ⟨s, rfl, ?_⟩
    unfold apQ
    rw [if_neg (by rw [frag_no hfr h0]; simp)]
    simp only [Option.getD_some]
    rw [hp, if_neg (by simp), if_neg (by simp [holesN, poisS])]
theorem La.late {x : Pk} {c D : List Pk} {s : Es} (h : La x c D (some s)) (hc : Pcx x c) : (∀ y ∈ D, y.off = 0 → firstP s = (y, true)) ∧ ((∀ y ∈ D, y.off ≠ 0) → firstP s = (zeroPk, false)) := by
  rcases h with ⟨h, -⟩ | ⟨s', z, T, Y, e, hz, hfd, -⟩
  · simp at h
  · injection e with e
    subst e
    exact ⟨fun y hy h0 => hfd.first hc hy h0, fun hn => hfd.nofirst hn⟩
end R
namespace R
structure Pcf (p : Pk) (id : Int) (c : List Pk) : Prop where
  pcx : Pcx (basQ p id) c
  hdr : ∀ u ∈ c, u = { basQ p id with off := u.off, more := u.more, d := u.d }
  all : ∀ n : Nat, n < p.d.length → ∃ u ∈ c, u.off ≤ (n : Int) ∧ (n : Int) < u.off + (u.d.length : Int)
  zero : ∃ u ∈ c, u.off = 0
  last : ∃ u ∈ c, u.more = false
theorem Fed.done {x z : Pk} {c D : List Pk} {s : Es} {T : Int → Bool} {Y : Nat → Int} (h : Fed x z c D s T Y) (hall : ∀ u ∈ c, u ∈ D) (hcov : ∀ n : Nat, n < x.d.length → ∃ u ∈ c, u.off ≤ (n : Int) ∧ (n : Int) < u.off + (u.d.length : Int)) (hla : ∃ u ∈ c, u.more = false) : doneB s = true := by
  rw [h.jx.jn.done]
  refine ⟨h.en.2 ?_, fun n hn => ?_⟩
  · obtain ⟨u, hu, hm⟩ := hla
    exact ⟨u, hall u hu, hm⟩
  · obtain ⟨u, hu, h1, h2⟩ := hcov n hn
    exact (h.cov n).2 ⟨u, hall u hu, h1, h2⟩
theorem parts_pcf {p : Pk} {id : Int} {r : List Nat} {b : Nat} (h : Whl p) (hw : Wf p) (hid : 0 ≤ id ∧ id ≤ 4294967295) (hr : Cps r b p.d.length) (hn : r ≠ []) : Pcf p id (partsTo p id (p.d.length :: r)) := by
  have hpos : 0 < p.d.length := by
    cases r with
    | nil => exact absurd rfl hn
    | cons c r => have := hr.in' c (by simp); omega
  have hpw : (p.d.length :: r).Pairwise (fun a b => b < a) := List.pairwise_cons.2 ⟨fun c hc => (hr.in' c hc).2.2.1, hr.fall⟩
  have h0 : ∀ c ∈ p.d.length :: r, 0 < c ∧ c ≤ p.d.length := fun c hc => by
    rcases List.mem_cons.1 hc with rfl | hc
    · exact ⟨hpos, Nat.le_refl _⟩
    · have := hr.in' c hc; omega
  have hcov : ∀ (l : List Nat), (∀ c ∈ l, 0 < c ∧ c ≤ p.d.length) → l.Pairwise (fun a b => b < a) → ∀ n : Nat, n < l.headD 0 → ∃ u ∈ partsTo p id l, u.off ≤ (n : Int) ∧ (n : Int) < u.off + (u.d.length : Int) := by
    intro l
    induction l with
    | nil => intro _ _ n hn; simp at hn
    | cons c r ih =>
      intro hl hp n hn
      rw [List.pairwise_cons] at hp
      rw [partsTo]
      by_cases h1 : n < r.headD 0
      · obtain ⟨u, hu, h2⟩ := ih (fun e he => hl e (by simp [he])) hp.2 n h1
        exact ⟨u, List.mem_append_left _ hu, h2⟩
      · refine ⟨_, List.mem_append_right _ (List.mem_singleton.2 rfl), ?_, ?_⟩
        · rw [part_bas]; show ((r.headD 0 : Nat) : Int) ≤ n; omega
        · rw [part_len p _ c id (hl c (by simp)).2, part_bas]
          show (n : Int) < ((r.headD 0 : Nat) : Int) + ((c - r.headD 0 : Nat) : Int)
          simp only [List.headD_cons] at hn
          omega
  refine ⟨parts_pcx h hw hid hr hn, fun u hu => ?_, fun n hn => hcov _ h0 hpw n hn, ?_, ?_⟩
  · obtain ⟨f, t, rfl, -⟩ := parts_in hpw (fun c hc => (h0 c hc).1) hu
    rw [part_bas]
  · obtain ⟨y, h1, h2⟩ := parts_zero (p := p) (id := id) (l := p.d.length :: r) (by simp)
    exact ⟨y, List.mem_of_getElem? h1, h2⟩
  · refine ⟨_, by rw [partsTo]; exact List.mem_append_right _ (List.mem_singleton.2 rfl), ?_⟩
    rw [part_bas]
    exact decide_eq_false (by omega)
end R
namespace R
def setB (B : Int → Bool) (i : Nat) : Int → Bool := fun n => if n = (i : Int) then true else B n
theorem setB_at (B : Int → Bool) (i : Nat) : setB B i (i : Int) = true := by unfold setB; rw [if_pos rfl]
theorem setB_ne {B : Int → Bool} {i k : Nat} (h : k ≠ i) : setB B i (k : Int) = B (k : Int) := by unfold setB; rw [if_neg (by omega)]
theorem parts_nodup {p : Pk} {id : Int} : ∀ {l : List Nat}, l.Pairwise (fun a b => b < a) → (∀ c ∈ l, 0 < c) → (partsTo p id l).Nodup
  | [], _, _ => by simp [partsTo]
  | c :: r, hp, h0 => by
    rw [partsTo]
    rw [List.pairwise_cons] at hp
    rw [List.nodup_append]
    refine ⟨parts_nodup hp.2 (fun e he => h0 e (by simp [he])), by simp, fun a ha b hb hab => ?_⟩
    subst hab
    rw [List.mem_singleton] at hb
    obtain ⟨f, t, h1, h2, h3, -⟩ := parts_in hp.2 (fun e he => h0 e (by simp [he])) ha
    have e1 : a.off = (f : Int) := by rw [h1, part_bas]
    have e2 : a.off = ((r.headD 0 : Nat) : Int) := by rw [hb, part_bas]
    omega
theorem get_lt {α : Type} {l : List α} {k : Nat} {y : α} (h : l[k]? = some y) : k < l.length := by
  rcases Nat.lt_or_ge k l.length with h1 | h1
  · exact h1
  · rw [List.getElem?_eq_none h1] at h; simp at h
theorem nd_inj {α : Type} {l : List α} (hnd : l.Nodup) {j k : Nat} {u : α} (h1 : l[j]? = some u) (h2 : l[k]? = some u) : j = k :=
  (List.getElem?_inj (get_lt h1) hnd).1 (h1.trans h2.symm)
structure Lq (p : Pk) (id : Int) (l : List Pk) : Prop where
  c : Pcf p id l
  nd : l.Nodup
  pos : ∀ y ∈ l, 0 < y.d.length ∧ y.d.length ≤ 4000
  z : ∀ (k : Nat) (y : Pk), l[k]? = some y → (y.off = 0 ↔ k = 0)
  all : ∀ y ∈ l, rgt2 y = true ∧ y.o = [] ∧ Wf y
theorem lq_parted {p : Pk} {id : Int} {r : List Nat} {b : Nat} (h : Whl p) (hw : Wf p) (hid : 0 ≤ id ∧ id ≤ 4294967295) (hr : Cps r b p.d.length) (h2 : 2 ≤ (partedL p id r).length) : Lq p id (partedL p id r) := by
  unfold partedL at h2 ⊢
  by_cases hn : r = []
  · rw [if_pos hn] at h2; simp at h2
  · rw [if_neg hn] at h2 ⊢
    have hpos : 0 < p.d.length := by
      cases r with
      | nil => exact absurd rfl hn
      | cons c r => have := hr.in' c (by simp); omega
    have hpw : (p.d.length :: r).Pairwise (fun a b => b < a) := List.pairwise_cons.2 ⟨fun c hc => (hr.in' c hc).2.2.1, hr.fall⟩
    have h0 : ∀ c ∈ p.d.length :: r, 0 < c ∧ c ≤ p.d.length := fun c hc => by
      rcases List.mem_cons.1 hc with rfl | hc
      · exact ⟨hpos, Nat.le_refl _⟩
      · have := hr.in' c hc; omega
    have hc := parts_pcf (id := id) h hw hid hr hn
    have hnd := parts_nodup (p := p) (id := id) hpw (fun c hc => (h0 c hc).1)
    have hps : ∀ y ∈ partsTo p id (p.d.length :: r), 0 < y.d.length ∧ y.d.length ≤ 4000 := fun y hy => by
      obtain ⟨f, t, h1, h2, h3, h4, h5, h6⟩ := parts_in hpw (fun c hc => (h0 c hc).1) hy
      rw [h1, part_len p f t id (h0 t h6).2]
      have := h.len
      have := (h0 t h6).2
      omega
    refine ⟨hc, hnd, hps, fun k y hy => ?_, fun y hy => ?_⟩
    · obtain ⟨y0, h1, h2⟩ := parts_zero (p := p) (id := id) (l := p.d.length :: r) (by simp)
      constructor
      · intro h3
        rcases hc.pcx.ap y (List.mem_of_getElem? hy) y0 (List.mem_of_getElem? h1) with e | e | e
        · subst e; exact nd_inj hnd hy h1
        · have := hps y (List.mem_of_getElem? hy); omega
        · have := hps y0 (List.mem_of_getElem? h1); omega
      · rintro rfl
        rw [hy] at h1
        injection h1 with h1
        rw [h1]; exact h2
    · have hk := (hc.pcx.frg y hy).kin
      refine ⟨hk.r, ?_, hk.wf⟩
      rw [hc.hdr y hy]
      show (basQ p id).o = []
      unfold basQ
      split <;> exact h.o
def Wl (p : Pk) (id : Int) (l : List Pk) (B : Int → Bool) (a : Option Es) (t0 : Int) : Prop :=
  ∃ D, (∀ y, y ∈ D ↔ ∃ k : Nat, B k = true ∧ l[k]? = some y) ∧ La (basQ p id) l D a ∧ ∀ s, a = some s → s.tb = t0
theorem wl_none (p : Pk) (id : Int) (l : List Pk) (t0 : Int) : Wl p id l (fun _ => false) none t0 := ⟨[], fun y => by simp, la_none _ _, by simp⟩
theorem Wl.put {p : Pk} {id : Int} {l : List Pk} {B : Int → Bool} {a : Option Es} {now : Int} (h : Wl p id l B a now) (hp : Whl p) (hl : Lq p id l) {i : Nat} {y : Pk} (hy : l[i]? = some y) {j : Nat} (hj : j < l.length) (hji : j ≠ i) (hB : B (j : Int) = false) :
    (apQ now a y).2.1 = [] ∧ Wl p id l (setB B i) (apQ now a y).2.2 now := by
  obtain ⟨D, hD, hla, htb⟩ := h
  have hym : y ∈ l := List.mem_of_getElem? hy
  obtain ⟨e1, e2, e3, e4⟩ := basQ_d p id
  have hD' : ∀ u, u ∈ y :: D ↔ ∃ k : Nat, setB B i k = true ∧ l[k]? = some u := fun u => by
    rw [List.mem_cons, hD]
    constructor
    · rintro (rfl | ⟨k, h1, h2⟩)
      · exact ⟨i, setB_at B i, hy⟩
      · refine ⟨k, ?_, h2⟩
        by_cases e : k = i
        · rw [e]; exact setB_at B i
        · rw [setB_ne e]; exact h1
    · rintro ⟨k, h1, h2⟩
      by_cases e : k = i
      · subst e
        rw [hy] at h2
        exact .inl (by injection h2 with h2; exact h2.symm)
      · rw [setB_ne e] at h1
        exact .inr ⟨k, h1, h2⟩
  have hless : ∃ u ∈ l, u ∉ y :: D := by
    refine ⟨l[j], List.getElem_mem hj, fun hm => ?_⟩
    obtain ⟨k, h1, h2⟩ := (hD' _).1 hm
    have := nd_inj hl.nd h2 (List.getElem?_eq_getElem hj)
    subst this
    rw [setB_ne hji, hB] at h1
    simp at h1
  obtain ⟨-, h2, h3, h4⟩ := hla.put (now := now) (by rw [e2]; exact hp.v) (by rw [e1]; exact hp.len) hl.c.pcx hym hless
  refine ⟨h2, y :: D, hD', h3, fun s hs => ?_⟩
  rw [h4 s hs]
  cases a with
  | none => rfl
  | some s0 => exact htb s0 rfl
theorem Wl.ky {p : Pk} {id : Int} {l : List Pk} {B : Int → Bool} {a : Option Es} {t0 : Int} (h : Wl p id l B a t0) (hl : Lq p id l) {y : Pk} (hy : y ∈ l) : ∀ s, a = some s → kyB y s.k = true := by
  intro s hs
  obtain ⟨D, -, hla, -⟩ := h
  rcases hla with ⟨e, -⟩ | ⟨s', z, T, Y, e, hz, hfd, -⟩
  · rw [e] at hs; simp at hs
  · rw [e] at hs
    injection hs with hs
    subst hs
    rw [hfd.jx.ky]
    exact key_of (hl.c.pcx.frg y hy).kin (hl.c.pcx.frg z hz).kin
theorem Wl.isS {p : Pk} {id : Int} {l : List Pk} {B : Int → Bool} {a : Option Es} {t0 : Int} (h : Wl p id l B a t0) {k : Nat} (hk : k < l.length) (hB : B (k : Int) = true) : ∃ s, a = some s := by
  obtain ⟨D, hD, hla, -⟩ := h
  rcases hla with ⟨-, e⟩ | ⟨s', z, T, Y, e, hz, hfd, -⟩
  · have : l[k] ∈ D := (hD _).2 ⟨k, hB, List.getElem?_eq_getElem hk⟩
    rw [e] at this
    simp at this
  · exact ⟨_, e⟩
def badP (y : Pk) (u : Int) : Pk := { y with d := y.d.set 0 u }
theorem Wl.bad {p : Pk} {id : Int} {l : List Pk} {B : Int → Bool} {a : Option Es} {t0 : Int} (h : Wl p id l B a t0) (hp : Whl p) (hl : Lq p id l) {k : Nat} {y : Pk} (hy : l[k]? = some y) (hB : B (k : Int) = true) {u : Int} (hu : 0 ≤ u ∧ u ≤ 255) (hne : some u ≠ y.d[0]?) (now : Int) :
    (∃ s, a = some s ∧ apQ now a (badP y u) = (4, [], some (poisS s))) ∧ rgt2 (badP y u) = true ∧ Wf (badP y u) ∧ (badP y u).o = [] := by
  have hym : y ∈ l := List.mem_of_getElem? hy
  obtain ⟨hr, ho, hw⟩ := hl.all y hym
  obtain ⟨D, hD, hla, -⟩ := h
  obtain ⟨e1, e2, e3, e4⟩ := basQ_d p id
  have hlen : (badP y u).d.length = y.d.length := List.length_set ..
  have hpos := (hl.pos y hym).1
  have hwb : Wf (badP y u) := ⟨hw.v, hw.tos, hw.flow, hw.sv, hw.sl, hw.sb, hw.dv, hw.dl, hw.db, hw.proto, hw.ttl, hw.id0, hw.id1, hw.off, hw.o, hw.ol, hw.d.set 0 hu.1 hu.2, by rw [hlen]; exact hw.dn⟩
  have hrb : rgt2 (badP y u) = true := by
    rw [← hr]
    unfold rgt2 rightP S6.rightP formedP badP
    simp only [List.length_set, S6.hofP, S6.bareP]
    first | done | rfl
  exact ⟨hla.bad (now := now) (by rw [e1]; exact hp.len) hl.c.pcx ((hD y).2 ⟨k, hB, hy⟩) rfl hlen hwb hrb (by
    show (y.d.set 0 u)[0]? ≠ _
    rw [List.getElem?_set_self hpos]; exact hne), hrb, hwb, ho⟩
theorem Wl.late {p : Pk} {id : Int} {l : List Pk} {B : Int → Bool} {s : Es} {t0 : Int} (h : Wl p id l B (some s) t0) (hl : Lq p id l) {y0 : Pk} (h0 : l[0]? = some y0) : firstP s = if B 0 = true then (y0, true) else (zeroPk, false) := by
  obtain ⟨D, hD, hla, -⟩ := h
  obtain ⟨h1, h2⟩ := hla.late hl.c.pcx
  by_cases hb : B 0 = true
  · rw [if_pos hb]
    exact h1 y0 ((hD y0).2 ⟨0, hb, h0⟩) ((hl.z 0 y0 h0).2 rfl)
  · rw [if_neg hb]
    refine h2 (fun y hy e => ?_)
    obtain ⟨k, h3, h4⟩ := (hD y).1 hy
    have := (hl.z k y h4).1 e
    subst this
    exact hb h3
theorem pois_first (s : Es) : firstP (poisS s) = (zeroPk, false) := rfl
end R
end Go.Proofs.YtkccpidgeecemaaGreatDoor
