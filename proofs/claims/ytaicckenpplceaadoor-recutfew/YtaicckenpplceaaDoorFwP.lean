/-
  For RecutFew: how full the pieces are, and how few.
-/
import Derived.Test.YtaicckenpplceaaDoorRtP
namespace Go.Proofs.YtaicckenpplceaaDoor
open Go.ChangeShapes Go.WideShapes Go.ChangeAt Go.RowKit Num
set_option linter.unusedVariables false
set_option maxHeartbeats 4000000
set_option maxRecDepth 100000

namespace R
/-- Every piece but the last: no room for eight bytes more, and the rest would not have fitted. -/
def Full (x : Pk) (m : Int) (l : List Pk) : Prop := ∀ i q, l[i]? = some q → i + 1 < l.length → m < 20 + (q.o.length : Int) + q.d.length + 8 ∧ m < 20 + (q.o.length : Int) + (x.off + x.d.length - q.off)
theorem share_full {left room : Nat} {v : Int} (hv : v ≠ 6) (h : shareP left room v < left) : shareP left room v = room / 8 * 8 ∧ room < left := by
  unfold shareP at h ⊢
  rw [if_neg hv] at h ⊢
  split
  · rename_i h1; rw [if_pos h1] at h; omega
  · rename_i h1; omega
theorem pcs_full {u : Pk} {m : Int} (hu : Unc u) (huw : Wf u) (hv : u.v ≠ 6) (hm : mtuP m u.v = true) {lat : Pk} (hlat : Frm u lat) : ∀ (k : Nat) (f : Pk) (n : Nat), Frm u f → u.d.length - n ≤ k →
    ∀ i q, (pcsP u m lat k f n)[i]? = some q → i + 1 < (pcsP u m lat k f n).length → m < 20 + (q.o.length : Int) + q.d.length + 8 ∧ m < 20 + (q.o.length : Int) + (u.d.length - q.off)
  | 0, f, n, hf, hk, i, q, hq, hi => by simp [pcsP] at hq
  | k + 1, f, n, hf, hk, i, q, hq, hi => by
    by_cases hn : n < u.d.length
    · have ht := took hu huw hf hm hn
      obtain ⟨r1, r2, r3, r4, r5, r6, r7⟩ := room_eq hu huw hf hm
      obtain ⟨o, hfo, -⟩ := hf.h4 hv
      have htop : topP f = 20 + f.o.length := by unfold topP; rw [hfo]; exact if_neg hv
      rw [pcsP, if_pos hn] at hq hi
      generalize hs : shareP (u.d.length - n) (roomP f m) u.v = s at ht hq hi
      cases i with
      | zero =>
        simp only [List.getElem?_cons_zero, Option.some.injEq] at hq
        simp only [List.length_cons] at hi
        have hlt : n + s < u.d.length := by
          by_cases h1 : n + s < u.d.length
          · exact h1
          · rw [pcs_nil h1] at hi; simp at hi
        obtain ⟨e1, e2⟩ := share_full hv (show shareP (u.d.length - n) (roomP f m) u.v < u.d.length - n by rw [hs]; omega)
        rw [hs] at e1
        subst hq
        have hl := ht.len
        show m < 20 + (f.o.length : Int) + (((u.d.drop n).take s).length : Int) + 8 ∧ m < 20 + (f.o.length : Int) + ((u.d.length : Int) - (n : Int))
        rw [hl]
        omega
      | succ i =>
        simp only [List.getElem?_cons_succ] at hq
        simp only [List.length_cons] at hi
        exact pcs_full hu huw hv hm hlat k lat (n + s) hlat (by have := ht.pos; omega) i q hq (by omega)
    · rw [pcs_nil hn] at hq; simp at hq
theorem lastM_key (b : Bool) : ∀ l : List Pk, (lastM b l).map (fun q => (q.o.length, q.d.length, q.off)) = l.map (fun q => (q.o.length, q.d.length, q.off))
  | [] => rfl
  | [q] => rfl
  | q :: r :: s => by
    have := lastM_key b (r :: s)
    simp only [lastM, List.map_cons] at this ⊢
    rw [this]
theorem map_at {α β : Type} {f g : α → β} {l m : List α} (h : l.map f = m.map g) {i : Nat} {x : α} (hx : l[i]? = some x) : ∃ y, m[i]? = some y ∧ f x = g y := by
  have h1 := congrArg (fun l => l[i]?) h
  simp only [List.getElem?_map, hx, Option.map_some] at h1
  cases hy : m[i]? with
  | none => rw [hy] at h1; simp at h1
  | some y => rw [hy] at h1; simp at h1; exact ⟨y, rfl, h1⟩
theorem recut_full {x : Pk} {m : Int} (hw : Wf x) (hr : rgtP x = true) (hv : x.v = 4) (hdf : x.df = false) (hm : mtuP m 4 = true) {l : List Pk} (he : recutP x m = (l, 0)) : Full x m l ∧ (l.length = 1 ↔ longP x ≤ m) := by
  have hv6 : x.v ≠ 6 := by omega
  unfold recutP at he
  rw [if_pos ⟨hr, hm⟩] at he
  by_cases hl : longP x ≤ m
  · rw [if_pos hl] at he
    simp only [Prod.mk.injEq, and_true] at he
    subst he
    exact ⟨fun i q hq hi => by simp at hi, by simp [hl]⟩
  · rw [if_neg hl, if_neg (by rw [hdf]; simp; omega)] at he
    simp only [Prod.mk.injEq, and_true] at he
    have hu := un_right hr hv6
    have huw := un_wf hw
    have h2 := un_two hw hr hm hl hv6
    have hm' : mtuP m (unP x).v = true := by show mtuP m x.v = true; rw [hv]; exact hm
    have hxr := hr
    unfold rgtP at hxr
    rw [if_neg hv6, right_iff] at hxr
    have x1 := hxr.1.o0; have x2 := hxr.1.reach
    have hlen : l.length = (cutL (unP x) m 0).length := by
      have := congrArg List.length (lastM_key x.more ((cutL (unP x) m 0).map (shP x.off)))
      simp only [List.length_map] at this
      rw [← he]; exact this
    refine ⟨fun i q hq hi => ?_, by rw [hlen]; constructor <;> (intro h; omega)⟩
    rw [← he] at hq
    unfold recutL at hq
    obtain ⟨y, hy, e⟩ := map_at (lastM_key x.more ((cutL (unP x) m 0).map (shP x.off))) hq
    rw [List.getElem?_map] at hy
    cases hz : (cutL (unP x) m 0)[i]? with
    | none => rw [hz] at hy; simp at hy
    | some z =>
      rw [hz] at hy
      simp only [Option.map_some, Option.some.injEq] at hy
      subst hy
      have hfull := pcs_full hu huw hv6 hm' (hu.lat huw (id := 0) (by omega) (by omega)) (unP x).d.length (fstP (unP x) 0) 0 (hu.fst huw (by omega) (by omega)) (by omega) i z hz (by rw [← show (cutL (unP x) m 0) = pcsP (unP x) m (latP (unP x) 0) (unP x).d.length (fstP (unP x) 0) 0 from rfl, ← hlen]; exact hi)
      simp only [Prod.mk.injEq] at e
      obtain ⟨e1, e2, e3⟩ := e
      have e1' : q.o.length = z.o.length := e1
      have e2' : q.d.length = z.d.length := e2
      have e3' : q.off = wrap64 (z.off + x.off) := e3
      have hzo : 0 ≤ z.off ∧ z.off ≤ 65535 := by
        have hp := part_pcs hu huw (hu.lat huw (id := 0) (by omega) (by omega)) hm' (unP x).d.length (fstP (unP x) 0) 0 (hu.fst huw (by omega) (by omega)) (by omega) (by omega) (by omega)
        have hf := (fits_iff z m).1 (part_fits _ _ _ _ _ _ hp z (List.mem_of_getElem? hz))
        have h3 := rgt_off hf.1
        omega
      have e4 : wrap64 (z.off + x.off) = z.off + x.off := by unfold wrap64; omega
      have e5 : (unP x).d.length = x.d.length := rfl
      rw [e5] at hfull
      rw [e1', e2', e3', e4]
      omega
/-! No list that fits is shorter. -/
def sumN (l : List Pk) (k : Nat) : Nat := (datas (l.take k)).length
theorem sum_succ {l : List Pk} {k : Nat} {q : Pk} (h : l[k]? = some q) : sumN l (k + 1) = sumN l k + q.d.length := by
  have hk := (List.getElem?_eq_some_iff.1 h).1
  have e : l[k] = q := by rw [List.getElem?_eq_getElem hk] at h; simpa using h
  unfold sumN
  rw [List.take_succ_eq_append_getElem hk, datas_app, List.length_append, e]
  simp [datas]
theorem compl_at : ∀ (l : List Pk) (e : Int), complL e l = true → ∀ (k : Nat) (q : Pk), l[k]? = some q → q.off = e + sumN l k
  | [], e, h, k, q, hq => by simp at hq
  | a :: r, e, h, k, q, hq => by
    rw [complL, Bool.and_eq_true, decide_eq_true_eq] at h
    cases k with
    | zero =>
      simp only [List.getElem?_cons_zero, Option.some.injEq] at hq
      subst hq
      simp [sumN, datas, h.1]
    | succ k =>
      simp only [List.getElem?_cons_succ] at hq
      have := compl_at r _ h.2 k q hq
      rw [this, h.1]
      have e2 : sumN (a :: r) (k + 1) = a.d.length + sumN r k := by
        show (a.d ++ datas (r.take k)).length = _
        rw [List.length_append]; rfl
      rw [e2]; omega
theorem more_at {b : Bool} : ∀ (l : List Pk), moresB b l → ∀ (k : Nat) (q : Pk), l[k]? = some q → k + 1 < l.length → q.more = true
  | [], h, k, q, hq, hk => by simp at hq
  | [a], h, k, q, hq, hk => by simp at hk
  | a :: r :: s, h, k, q, hq, hk => by
    cases k with
    | zero => simp only [List.getElem?_cons_zero, Option.some.injEq] at hq; subst hq; exact h.1
    | succ k => exact more_at (r :: s) h.2 k q (by simpa using hq) (by simpa using hk)
theorem opt_at {x : Pk} {m : Int} {l : List Pk} (h : Ref2 x m l) {k : Nat} {q : Pk} (hq : l[k]? = some q) : q.o = if k = 0 then x.o else carryP x.o := by
  cases l with
  | nil => simp at hq
  | cons a r =>
    cases k with
    | zero =>
      simp only [List.getElem?_cons_zero, Option.some.injEq] at hq
      subst hq
      exact (h.ref.hd _ _ rfl).1
    | succ k =>
      simp only [List.getElem?_cons_succ] at hq
      exact h.tl a r rfl q (List.mem_of_getElem? hq)
theorem few {x : Pk} {m : Int} {l l' : List Pk} (hv : x.v = 4) (h : Ref2 x m l) (hf : Full x m l) (h' : Ref2 x m l') : l.length ≤ l'.length := by
  have hv6 : x.v ≠ 6 := by omega
  have htop : ∀ {l : List Pk} (h : Ref2 x m l) {q : Pk}, q ∈ l → 20 + (q.o.length : Int) + q.d.length ≤ m ∧ (q.more = true → q.d.length % 8 = 0) := fun {l} h {q} hq => by
    have hk := h.ref.kin q hq
    have h1 := h.fit q hq
    rw [long_of hk.r] at h1
    have e : topP q = 20 + q.o.length := by unfold topP; rw [if_neg (by rw [hk.v]; exact hv6)]
    have hr := hk.r
    unfold rgtP at hr
    rw [if_neg (by rw [hk.v]; exact hv6), right_iff] at hr
    exact ⟨by rw [e] at h1; push_cast at h1; omega, hr.1.m8⟩
  refine Nat.le_of_not_lt fun hlt => ?_
  have hne : l'.length ≠ 0 := fun e => h'.ref.ne (List.eq_nil_of_length_eq_zero e)
  have key : ∀ k, k + 1 ≤ l'.length → sumN l' k ≤ sumN l k := by
    intro k
    induction k with
    | zero => intro _; simp [sumN, datas]
    | succ k ih =>
      intro hk
      have h1 := ih (by omega)
      obtain ⟨q, hq⟩ : ∃ q, l[k]? = some q := ⟨l[k]'(by omega), List.getElem?_eq_getElem (by omega)⟩
      obtain ⟨q', hq'⟩ : ∃ q, l'[k]? = some q := ⟨l'[k]'(by omega), List.getElem?_eq_getElem (by omega)⟩
      rw [sum_succ hq, sum_succ hq']
      have f1 := (hf k q hq (by omega)).1
      have f2 := htop h' (List.mem_of_getElem? hq')
      have f3 := htop h (List.mem_of_getElem? hq)
      have g1 := f2.2 (more_at l' h'.ref.mo k q' hq' (by omega))
      have g2 := f3.2 (more_at l h.ref.mo k q hq (by omega))
      have o1 := opt_at h hq
      have o2 := opt_at h' hq'
      rw [← o2] at o1
      rw [o1] at f1
      have f4 := f2.1
      omega
  obtain ⟨k, hk⟩ : ∃ k, l'.length = k + 1 := ⟨l'.length - 1, by omega⟩
  have h1 := key k (by omega)
  obtain ⟨q, hq⟩ : ∃ q, l[k]? = some q := ⟨l[k]'(by omega), List.getElem?_eq_getElem (by omega)⟩
  obtain ⟨q', hq'⟩ : ∃ q, l'[k]? = some q := ⟨l'[k]'(by omega), List.getElem?_eq_getElem (by omega)⟩
  have f1 := (hf k q hq (by omega)).2
  have f2 := (htop h' (List.mem_of_getElem? hq')).1
  have o1 := opt_at h hq
  have o2 := opt_at h' hq'
  rw [← o2] at o1
  rw [o1] at f1
  have e1 := compl_at l _ h.ref.cm k q hq
  have e2 : sumN l' (k + 1) = x.d.length := by
    unfold sumN
    rw [List.take_of_length_le (by omega), h'.ref.da]
  rw [sum_succ hq'] at e2
  omega
/-- What Is takes, fits. -/
theorem is_fits {x : Pk} {m : Int} {l : List Pk} (hk : ∀ q ∈ l, rgtP q = true) (h : isR x m l = true) : ∀ q ∈ l, longP q ≤ m := by
  rcases l with _ | ⟨q, _ | ⟨r, s⟩⟩
  · intro q hq; simp at hq
  · have h1 : (rgtP x && mtuP m 4 && (decide (longP x ≤ m) && dP q x)) = true := h
    simp only [Bool.and_eq_true, decide_eq_true_eq] at h1
    intro z hz
    simp at hz
    subst hz
    rw [h1.2.2]; exact h1.2.1
  · have h1 : (rgtP x && mtuP m 4 && (decide (x.v = 4) && partR x m (q :: r :: s))) = true := h
    simp only [Bool.and_eq_true, decide_eq_true_eq] at h1
    have h2 := h1.2.2
    unfold partR at h2
    rw [Bool.and_eq_true] at h2
    have h3 := h2.2
    obtain ⟨b', s', hbs⟩ := lastM_cons false (shM x.off r) (s.map (shM x.off))
    have e1 : lastM false ((q :: r :: s).map (shM x.off)) = shM x.off q :: b' :: s' := by
      show shM x.off q :: lastM false (shM x.off r :: s.map (shM x.off)) = _
      rw [hbs]
    rw [e1] at h3
    have h4 : (uncutP (unP x) && mtuP m (unP x).v && (!(unP x).df && partP (unP x) m (latP (unP x) (shM x.off q).id) (fstP (unP x) (shM x.off q).id) 0 (shM x.off q :: b' :: s'))) = true := h3
    simp only [Bool.and_eq_true] at h4
    have h5 := part_fits _ _ _ _ _ _ h4.2.2
    rw [← e1] at h5
    intro z hz
    have hm : (z.o, topP z + z.d.length) ∈ (lastM false ((q :: r :: s).map (shM x.off))).map (fun q => (q.o, topP q + q.d.length)) := by
      rw [lastM_o, List.map_map]
      exact List.mem_map.2 ⟨z, hz, rfl⟩
    obtain ⟨y, hy, hye⟩ := List.mem_map.1 hm
    simp only [Prod.mk.injEq] at hye
    have h6 := ((fits_iff y m).1 (h5 y hy)).2
    rw [long_of (hk z hz), ← hye.2]
    exact h6
end R
#print axioms R.few
end Go.Proofs.YtaicckenpplceaaDoor
