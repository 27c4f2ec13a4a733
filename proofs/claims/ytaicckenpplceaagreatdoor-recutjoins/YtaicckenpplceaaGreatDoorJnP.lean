/-
  The document's Join as plain data: fragments that are of one datagram, and those in their order.
-/
import Derived.Test.YtaicckenpplceaaGreatDoorJoinM
namespace Go.Proofs.YtaicckenpplceaaGreatDoor
open Go.ChangeShapes Go.WideShapes Go.ChangeAt Go.RowKit Num
set_option linter.unusedVariables false
set_option maxHeartbeats 4000000

namespace R
theorem rgt_more {p : Pk} (h : rgtP p = true) (hm : p.more = true ∨ 0 < p.off) : 0 < p.d.length := by
  unfold rgtP at h
  by_cases hv : p.v = 6
  · rw [if_pos hv, S6.right_iff] at h
    have := h.mn hm; omega
  · rw [if_neg hv, right_iff] at h
    rcases hm with hm | hm
    · have := h.1.m0 hm; omega
    · have := h.1.f0 hm; omega
def NoLap (p q : Pk) : Prop := ¬ (p.off < q.off + q.d.length ∧ q.off < p.off + p.d.length)
def OneEnd (p q : Pk) : Prop := ¬ (p.more = false ∧ q.more = false)
def Within (e p : Pk) : Prop := e.more = false → p.off + p.d.length ≤ e.off + e.d.length ∧ ¬ (p.more = true ∧ e.off + (e.d.length : Int) ≤ p.off)
theorem NoLap.symm {p q : Pk} (h : NoLap p q) : NoLap q p := fun ⟨a, b⟩ => h ⟨b, a⟩
theorem OneEnd.symm {p q : Pk} (h : OneEnd p q) : OneEnd q p := fun ⟨a, b⟩ => h ⟨b, a⟩
structure Good (l : List Pk) : Prop where
  lap : l.Pairwise NoLap
  one : l.Pairwise OneEnd
  win : ∀ e ∈ l, ∀ p ∈ l, Within e p
theorem Good.perm {s l : List Pk} (h : s.Perm l) (g : Good l) : Good s :=
  ⟨(h.pairwise_iff (fun hxy => NoLap.symm hxy)).2 g.lap, (h.pairwise_iff (fun hxy => OneEnd.symm hxy)).2 g.one, fun e he p hp => g.win e (h.mem_iff.1 he) p (h.mem_iff.1 hp)⟩
theorem clash_cons {x : Pk} {r : List Pk} (h : clashL (x :: r) = false) (hs : Srt (x :: r)) : ∀ y ∈ r, x.more = true ∧ x.off + x.d.length ≤ y.off := by
  cases r with
  | nil => intro y hy; exact absurd hy (by simp)
  | cons q t =>
    rw [clashL, Bool.or_eq_false_iff, Bool.or_eq_false_iff, Bool.not_eq_false', decide_eq_false_iff_not] at h
    unfold Srt at hs
    rw [List.pairwise_cons, List.pairwise_cons] at hs
    intro y hy
    refine ⟨h.1.1, ?_⟩
    have h2 := h.1.2
    rcases List.mem_cons.1 hy with rfl | hy
    · omega
    · have := hs.2.1 y hy; omega
theorem clash_tail {x : Pk} {r : List Pk} (h : clashL (x :: r) = false) : clashL r = false := by
  cases r with
  | nil => rfl
  | cons q t => rw [clashL, Bool.or_eq_false_iff] at h; exact h.2
theorem Srt.tail {x : Pk} {r : List Pk} (h : Srt (x :: r)) : Srt r := by unfold Srt at *; exact (List.pairwise_cons.1 h).2
theorem clash_good : ∀ (s : List Pk), (∀ p ∈ s, rgtP p = true) → Srt s → clashL s = false → Good s
  | [], _, _, _ => ⟨.nil, .nil, by simp⟩
  | x :: r, hr, hs, h => by
    have ih := clash_good r (fun p hp => hr p (by simp [hp])) hs.tail (clash_tail h)
    have hc := clash_cons h hs
    have hr0 := rgt_off (hr x (by simp))
    refine ⟨List.pairwise_cons.2 ⟨fun y hy => ?_, ih.lap⟩, List.pairwise_cons.2 ⟨fun y hy => ?_, ih.one⟩, fun e he p hp => ?_⟩
    · have := hc y hy; intro ⟨a, b⟩; omega
    · have := hc y hy; intro ⟨a, b⟩; rw [this.1] at a; simp at a
    · intro hm
      rcases List.mem_cons.1 he with rfl | he'
      · rcases List.mem_cons.1 hp with rfl | hp'
        · exact ⟨Int.le_refl _, fun ⟨a, _⟩ => by rw [hm] at a; simp at a⟩
        · have := (hc p hp').1; rw [hm] at this; simp at this
      · rcases List.mem_cons.1 hp with rfl | hp'
        · have h1 := hc e he'
          have h2 := rgt_more (hr p (by simp)) (.inl h1.1)
          refine ⟨by omega, fun ⟨_, b⟩ => by omega⟩
        · exact ih.win e he' p hp' hm
theorem good_clash : ∀ (s : List Pk), (∀ p ∈ s, rgtP p = true) → Srt s → Good s → clashL s = false
  | [], _, _, _ => rfl
  | [_], _, _, _ => rfl
  | p :: q :: r, hr, hs, g => by
    have ih := good_clash (q :: r) (fun x hx => hr x (by simp at hx ⊢; exact .inr hx)) hs.tail ⟨(List.pairwise_cons.1 g.lap).2, (List.pairwise_cons.1 g.one).2, fun e he x hx => g.win e (by simp at he ⊢; exact .inr he) x (by simp at hx ⊢; exact .inr hx)⟩
    have hpq : p.off ≤ q.off := by unfold Srt at hs; exact (List.pairwise_cons.1 hs).1 q (by simp)
    have hl : NoLap p q := (List.pairwise_cons.1 g.lap).1 q (by simp)
    have ho : OneEnd p q := (List.pairwise_cons.1 g.one).1 q (by simp)
    have hp := rgt_off (hr p (by simp)); have hq := rgt_off (hr q (by simp))
    rw [clashL, Bool.or_eq_false_iff, Bool.or_eq_false_iff, Bool.not_eq_false', decide_eq_false_iff_not]
    unfold NoLap at hl
    unfold OneEnd at ho
    refine ⟨⟨?_, ?_⟩, ih⟩
    · cases hm : p.more
      · exfalso
        have hqm : q.more = true := by
          cases hqm : q.more
          · exact absurd ⟨hm, hqm⟩ ho
          · rfl
        have h2 := rgt_more (hr q (by simp)) (.inl hqm)
        have h3 := g.win p (by simp) q (by simp) hm
        have h4 : ¬ (p.off + (p.d.length : Int) ≤ q.off) := fun e => h3.2 ⟨hqm, e⟩
        omega
      · rfl
    · intro hlt
      by_cases hqd : 0 < q.d.length
      · omega
      · have hq0 : q.off = 0 := by
          by_cases h0 : 0 < q.off
          · have := rgt_more (hr q (by simp)) (.inr h0); omega
          · omega
        have hqm : q.more = false := by
          cases hqm : q.more
          · rfl
          · have := rgt_more (hr q (by simp)) (.inl hqm); omega
        have h3 := (g.win q (by simp) p (by simp) hqm).1
        omega
/-- Where the datagram ends. -/
def EndIs (l : List Pk) (e : Int) : Prop := (e = -1 ∧ ∀ p ∈ l, p.more = true) ∨ (∃ p ∈ l, p.more = false ∧ e = p.off + p.d.length)
theorem EndIs.perm {s l : List Pk} {e : Int} (h : s.Perm l) (g : EndIs l e) : EndIs s e := by
  rcases g with ⟨a, b⟩ | ⟨p, hp, a⟩
  · exact .inl ⟨a, fun p hp => b p (h.mem_iff.1 hp)⟩
  · exact .inr ⟨p, h.mem_iff.2 hp, a⟩
theorem lastB_app (pre : List Pk) (x : Pk) : lastB (pre ++ [x]) = x.more := by
  induction pre with
  | nil => rfl
  | cons y t ih =>
    cases t with
    | nil => rfl
    | cons z u => exact ih
theorem clash_app : ∀ (pre : List Pk) {x : Pk} {r : List Pk}, clashL (pre ++ x :: r) = false → Srt (pre ++ x :: r) → (∀ y ∈ pre, y.more = true ∧ y.off + y.d.length ≤ x.off) ∧ (∀ y ∈ r, x.more = true ∧ x.off + x.d.length ≤ y.off)
  | [], x, r, h, hs => ⟨by simp, clash_cons h hs⟩
  | z :: t, x, r, h, hs => by
    have ih := clash_app t (clash_tail h) hs.tail
    refine ⟨fun y hy => ?_, ih.2⟩
    rcases List.mem_cons.1 hy with rfl | hy
    · exact clash_cons h hs x (by simp)
    · exact ih.1 y hy
/-- Packets in their order that are of one datagram. -/
structure Ordd (s : List Pk) : Prop where
  r : ∀ p ∈ s, rgtP p = true
  so : Srt s
  c : clashL s = false
/-- The end is told: it is the last one's. -/
theorem Ordd.last {s : List Pk} (h : Ordd s) {e : Int} (he : EndIs s e) (h0 : 0 ≤ e) : ∃ pre x, s = pre ++ [x] ∧ x.more = false ∧ e = x.off + x.d.length := by
  rcases he with ⟨a, _⟩ | ⟨p, hp, hm, hep⟩
  · omega
  · obtain ⟨pre, r, rfl⟩ := List.append_of_mem hp
    cases r with
    | nil => exact ⟨pre, p, rfl, hm, hep⟩
    | cons q t =>
      have := ((clash_app pre h.c h.so).2 q (by simp)).1
      rw [hm] at this; simp at this
theorem Ordd.noend {s : List Pk} (h : Ordd s) {e : Int} (he : EndIs s e) (h0 : e < 0) : (decide (0 < s.length) && !lastB s) = false := by
  rcases he with ⟨_, b⟩ | ⟨p, hp, hm, hep⟩
  · rcases List.eq_nil_or_concat s with rfl | ⟨pre, x, rfl⟩
    · rfl
    · have := b x (by simp)
      have e := lastB_app pre x
      rw [List.concat_eq_append, e, this]; simp
  · have := rgt_off (h.r p hp); omega
theorem compl_app : ∀ (pre : List Pk) (e : Int) (r : List Pk), complL e pre = true → complL e (pre ++ r) = complL (e + (datas pre).length) r
  | [], e, r, _ => by simp [datas]
  | p :: t, e, r, h => by
    rw [complL, Bool.and_eq_true, decide_eq_true_eq] at h
    have ih := compl_app t (p.off + p.d.length) r h.2
    rw [List.cons_append, complL, decide_eq_true h.1, Bool.true_and, ih]
    have : datas (p :: t) = p.d ++ datas t := rfl
    rw [this, List.length_append, h.1]
    congr 1
    push_cast; omega
theorem datas_snoc (pre : List Pk) (x : Pk) : datas (pre ++ [x]) = datas pre ++ x.d := by simp [datas]
/-- So far all has been found. -/
structure Upto (s pre r : List Pk) : Prop where
  eq : s = pre ++ r
  ne : pre ≠ []
  co : complL 0 pre = true
/-- The end of what was found. -/
theorem Upto.edge {s pre r : List Pk} (u : Upto s pre r) (h : Ordd s) : ∃ q x, pre = q ++ [x] ∧ x.off + (x.d.length : Int) = ((datas pre).length : Int) := by
  rcases List.eq_nil_or_concat pre with e | ⟨q, x, e⟩
  · exact absurd e u.ne
  · rw [List.concat_eq_append] at e
    subst e
    refine ⟨q, x, rfl, ?_⟩
    have hc := u.co
    have hq : complL 0 q = true := by
      have aux : ∀ (q : List Pk) (e : Int), complL e (q ++ [x]) = true → complL e q = true := by
        intro q
        induction q with
        | nil => intro e _; rfl
        | cons y t ih =>
          intro e h
          rw [List.cons_append, complL, Bool.and_eq_true] at h
          rw [complL, Bool.and_eq_true]
          exact ⟨h.1, ih _ h.2⟩
      exact aux q 0 hc
    rw [compl_app q 0 [x] hq, complL, Bool.and_eq_true, decide_eq_true_eq] at hc
    rw [datas_snoc, List.length_append, hc.1]
    push_cast; omega
/-- What is still to come lies at the edge or behind it; what was found lies ahead of it. -/
theorem Upto.places {s pre : List Pk} {y : Pk} {t : List Pk} (u : Upto s pre (y :: t)) (h : Ordd s) : ((datas pre).length : Int) ≤ y.off ∧ (∀ z ∈ pre, z.off < ((datas pre).length : Int)) ∧ (∀ z ∈ t, y.off < z.off) := by
  obtain ⟨q, x, hp, hx⟩ := u.edge h
  have heq := u.eq
  have hs := h.so; have hc := h.c
  rw [heq] at hs hc
  have h1 := clash_app pre hc hs
  refine ⟨?_, fun z hz => ?_, fun z hz => ?_⟩
  · have := (h1.1 x (by rw [hp]; simp)).2; omega
  · obtain ⟨hm, hz2⟩ := h1.1 z hz
    have hrz := rgt_more (h.r z (by rw [heq]; simp [hz])) (.inl hm)
    -- z lies ahead of x or is x
    rw [hp] at hz
    rcases List.mem_append.1 hz with hz' | hz'
    · have hs2 := hs; have hc2 := hc
      rw [hp, List.append_assoc] at hs2 hc2
      have := ((clash_app q (x := x) (r := y :: t) (by simpa using hc2) (by simpa using hs2)).1 z hz').2
      have hrx := rgt_off (h.r x (by rw [heq, hp]; simp))
      omega
    · simp at hz'; subst hz'; omega
  · obtain ⟨hm, hz2⟩ := h1.2 z hz
    have hry := rgt_more (h.r y (by rw [heq]; simp)) (.inl hm)
    omega
/-- The one that begins at the edge is the next one. -/
theorem Upto.next {s pre : List Pk} {r : List Pk} (u : Upto s pre r) (h : Ordd s) (hr : r ≠ []) {z : Pk} (hz : z ∈ s) (hzo : z.off = ((datas pre).length : Int)) : ∃ t, r = z :: t ∧ Upto s (pre ++ [z]) t := by
  cases r with
  | nil => exact absurd rfl hr
  | cons y t =>
    obtain ⟨a, b, c⟩ := u.places h
    rw [u.eq] at hz
    have : z = y := by
      rcases List.mem_append.1 hz with hz | hz
      · have := b z hz; omega
      · rcases List.mem_cons.1 hz with e | hz
        · exact e
        · have := c z hz; omega
    subst this
    refine ⟨t, rfl, ⟨by rw [u.eq]; simp, by simp, ?_⟩⟩
    rw [compl_app pre 0 [z] u.co, complL, Bool.and_eq_true, decide_eq_true_eq]
    exact ⟨by omega, rfl⟩
theorem Upto.gap {s pre : List Pk} {r : List Pk} (u : Upto s pre r) (h : Ordd s) (hr : r ≠ []) (hno : ∀ z ∈ s, z.off ≠ ((datas pre).length : Int)) : complL 0 s = false := by
  cases r with
  | nil => exact absurd rfl hr
  | cons y t =>
    rw [u.eq, compl_app pre 0 (y :: t) u.co, complL]
    have := hno y (by rw [u.eq]; simp)
    rw [decide_eq_false (by omega)]; rfl
/-- The loop goes on just as long as something is still to come. -/
theorem Upto.rest {s pre r : List Pk} (u : Upto s pre r) (h : Ordd s) {e : Int} (he : EndIs s e) (h0 : 0 ≤ e) : (((datas pre).length : Int) < e ↔ r ≠ []) := by
  obtain ⟨q, x, hs, hm, hex⟩ := h.last he h0
  obtain ⟨q', x', hp, hx'⟩ := u.edge h
  constructor
  · intro hlt hr
    subst hr
    have e1 := u.eq
    rw [List.append_nil] at e1
    rw [e1, hp] at hs
    have : x' = x := by
      have := congrArg List.getLast? hs
      simpa using this
    subst this
    omega
  · intro hr
    cases r with
    | nil => exact absurd rfl hr
    | cons y t =>
      obtain ⟨a, b, c⟩ := u.places h
      have hxm : x ∈ pre ++ y :: t := by rw [← u.eq, hs]; simp
      have hrx := rgt_off (h.r x (by rw [hs]; simp))
      have hnp : x ∉ pre := fun hx => by
        have hs2 := h.so; have hc2 := h.c
        rw [u.eq] at hs2 hc2
        have := ((clash_app pre hc2 hs2).1 x hx).1
        rw [hm] at this; simp at this
      have hxo : ((datas pre).length : Int) ≤ x.off := by
        rcases List.mem_append.1 hxm with hx | hx
        · exact absurd hx hnp
        · rcases List.mem_cons.1 hx with e | hx
          · rw [e]; exact a
          · have := c x hx; omega
      by_cases hd : 0 < x.d.length
      · omega
      · have hx0 : x.off = 0 := by
          by_cases h1 : 0 < x.off
          · have := rgt_more (h.r x (by rw [hs]; simp)) (.inr h1); omega
          · omega
        -- then nothing has been found, though something lies ahead
        have hb := b x' (by rw [hp]; simp)
        have hx'r := rgt_off (h.r x' (by rw [u.eq, hp]; simp))
        omega
theorem Ordd.first {s : List Pk} (h : Ordd s) {z : Pk} (hz : z ∈ s) (hzo : z.off = 0) : ∃ t, s = z :: t ∧ Upto s [z] t := by
  cases s with
  | nil => exact absurd hz (by simp)
  | cons y t =>
    have hc := clash_cons h.c h.so
    have : z = y := by
      rcases List.mem_cons.1 hz with e | hz
      · exact e
      · have h1 := hc z hz
        have h2 := rgt_more (h.r y (by simp)) (.inl h1.1)
        have h3 := rgt_off (h.r y (by simp))
        omega
    subst this
    exact ⟨t, rfl, ⟨rfl, by simp, by simp [complL, hzo]⟩⟩
theorem Ordd.nofirst {s : List Pk} (h : Ordd s) (hno : ∀ z ∈ s, z.off ≠ 0) : (complL 0 s && (decide (0 < s.length) && !lastB s)) = false := by
  cases s with
  | nil => rfl
  | cons y t =>
    rw [complL, decide_eq_false (hno y (by simp))]; rfl
/-- What Join tells of them. -/
theorem join_gap {s : List Pk} (h : Ordd s) (hg : (complL 0 s && (decide (0 < s.length) && !lastB s)) = false) : joinS s = (zeroPk, 110) := by
  unfold joinS; rw [if_neg (by rw [h.c]; simp), if_pos hg]
theorem join_clash {s : List Pk} (h : clashL s = true) : joinS s = (zeroPk, 1) := by unfold joinS; rw [if_pos h]
theorem join_done {s pre : List Pk} (h : Ordd s) (u : Upto s pre []) {e : Int} (he : EndIs s e) (h0 : 0 ≤ e) : joinS s = if rgtP (joinD s) = true then (joinD s, 0) else (zeroPk, 1) := by
  have e1 := u.eq
  rw [List.append_nil] at e1
  subst e1
  obtain ⟨q, x, hs, hm, hex⟩ := h.last he h0
  unfold joinS
  rw [if_neg (by rw [h.c]; simp), if_neg]
  rw [u.co, hs, lastB_app, hm]; simp
theorem exists_srt (l : List Pk) : ∃ s : List Pk, s.Perm l ∧ Srt s := by
  induction l with
  | nil => exact ⟨[], List.Perm.refl _, .nil⟩
  | cons x r ih =>
    obtain ⟨s, hp, hs⟩ := ih
    refine ⟨s.takeWhile (fun y => decide (y.off < x.off)) ++ x :: s.dropWhile (fun y => decide (y.off < x.off)), ?_, ?_⟩
    · refine List.perm_middle.trans ?_
      rw [List.takeWhile_append_dropWhile]
      exact hp.cons x
    · have aux : ∀ (s : List Pk), Srt s → Srt (s.takeWhile (fun y => decide (y.off < x.off)) ++ x :: s.dropWhile (fun y => decide (y.off < x.off))) := by
        intro s
        induction s with
        | nil => intro _; simp [Srt]
        | cons y t iht =>
          intro hs
          by_cases hy : y.off < x.off
          · rw [List.takeWhile_cons_of_pos (by simpa using hy), List.dropWhile_cons_of_pos (by simpa using hy), List.cons_append]
            have h1 := iht hs.tail
            unfold Srt at h1 hs ⊢
            refine List.pairwise_cons.2 ⟨fun z hz => ?_, h1⟩
            have hz2 : z = x ∨ z ∈ t := by
              rcases List.mem_append.1 hz with hz | hz
              · exact .inr (List.takeWhile_prefix _ |>.sublist.subset hz)
              · rcases List.mem_cons.1 hz with e | hz
                · exact .inl e
                · exact .inr (List.dropWhile_suffix _ |>.sublist.subset hz)
            rcases hz2 with rfl | hz2
            · omega
            · exact (List.pairwise_cons.1 hs).1 z hz2
          · rw [List.takeWhile_cons_of_neg (by simpa using hy), List.dropWhile_cons_of_neg (by simpa using hy), List.nil_append]
            unfold Srt at hs ⊢
            refine List.pairwise_cons.2 ⟨fun z hz => ?_, hs⟩
            rcases List.mem_cons.1 hz with rfl | hz
            · omega
            · have := (List.pairwise_cons.1 hs).1 z hz; omega
      exact aux s hs
end R
#print axioms R.join_done
end Go.Proofs.YtaicckenpplceaaGreatDoor
