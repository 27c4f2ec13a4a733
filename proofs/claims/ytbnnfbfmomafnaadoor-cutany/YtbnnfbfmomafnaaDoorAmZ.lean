/-
  CutAny: lists of packets with one changed.
-/
import Derived.Test.YtbnnfbfmomafnaaDoorMwZ
import Derived.Test.YtbnnfbfmomafnaaDoorStp
import Derived.Test.YtbnnfbfmomafnaaDoorQ32
import Derived.Test.YtbnnfbfmomafnaaDoorMnd
import Derived.Deep.MidRow
namespace Go.Proofs.YtbnnfbfmomafnaaDoor
open Num
set_option linter.unusedVariables false

/-- The data of the pieces, added up. -/
def sumD : List Pk → Nat
  | [] => 0
  | x :: r => x.d.length + sumD r
theorem sumD_app : ∀ a b : List Pk, sumD (a ++ b) = sumD a + sumD b
  | [], b => by simp [sumD]
  | x :: r, b => by simp only [List.cons_append, sumD]; rw [sumD_app r b]; omega
theorem part_sum {p : Pk} {m : Int} {lat : Pk} : ∀ (l : List Pk) (f : Pk) (n : Nat), partP p m lat f n l = true → n + sumD l = p.d.length
  | [], f, n, h => by simpa [partP, sumD] using h
  | x :: r, f, n, h => by
    simp only [partP, Bool.and_eq_true] at h
    have := part_sum r lat _ h.2
    simp only [sumD]; omega
theorem dP_iff (p q : Pk) : dP p q = true ↔ p = q := ⟨fun h => @of_decide_eq_true _ (pkDec p q) h, fun h => @decide_eq_true _ (pkDec p q) h⟩
/-- What a piece at place k is. -/
theorem part_at {p : Pk} {m : Int} {lat : Pk} : ∀ (l : List Pk) (f : Pk) (n : Nat), partP p m lat f n l = true → ∀ k x, l[k]? = some x → x = plcP (if k = 0 then f else lat) (n + sumD (l.take k)) ((p.d.drop (n + sumD (l.take k))).take x.d.length) (decide (k + 1 < l.length))
  | [], f, n, h, k, x, hx => by simp at hx
  | y :: r, f, n, h, 0, x, hx => by
    simp at hx; subst hx
    simp only [partP, Bool.and_eq_true] at h
    have := (dP_iff _ _).1 h.1.2
    have e : (!r.isEmpty) = decide (0 + 1 < (y :: r).length) := by cases r <;> simp
    rw [e] at this
    simpa [sumD] using this
  | y :: r, f, n, h, k + 1, x, hx => by
    simp only [partP, Bool.and_eq_true] at h
    have := part_at r lat _ h.2 k x (by simpa using hx)
    simp only [ite_self] at this
    rw [if_neg (by omega)]
    simp only [List.take_succ_cons, sumD, List.length_cons]
    rw [show n + (y.d.length + sumD (r.take k)) = n + y.d.length + sumD (r.take k) from by omega, show decide (k + 1 + 1 < r.length + 1) = decide (k + 1 < r.length) from by simp]
    exact this
/-- The same, field by field. -/
structure Pf (p : Pk) (h : Int) (l : List Pk) (k : Nat) (x : Pk) : Prop where
  ttl : x.ttl = p.ttl
  tos : x.tos = p.tos
  proto : x.proto = p.proto
  db : x.db = p.db
  df : x.df = p.df
  id4 : p.v ≠ 6 → x.id = p.id ∧ x.frag = p.frag
  id6 : p.v = 6 → x.id = h ∧ x.frag = true
  more : x.more = decide (k + 1 < l.length)
  off : x.off = (sumD (l.take k) : Int)
  o : x.o = if k = 0 then p.o else carryP p.o
  d : x.d = (p.d.drop (sumD (l.take k))).take x.d.length
theorem is_part {p : Pk} {m : Int} {a b : Pk} {r : List Pk} (h : isP p m (a :: b :: r) = true) : partP p m (latP p a.id) (fstP p a.id) 0 (a :: b :: r) = true := by
  unfold isP at h
  simp only [Bool.and_eq_true] at h
  exact h.2.2
theorem is_pf {p : Pk} {m : Int} {a b : Pk} {r : List Pk} (h : isP p m (a :: b :: r) = true) (k : Nat) (x : Pk) (hx : (a :: b :: r)[k]? = some x) : Pf p a.id (a :: b :: r) k x := by
  have h1 := part_at _ _ _ (is_part h) k x hx
  rw [Nat.zero_add] at h1
  generalize a :: b :: r = l at *
  have key : ∀ (f : Pk) (s : Nat) (d : List Int) (mo : Bool), (f = fstP p a.id ∨ f = latP p a.id) → x = plcP f s d mo → x.ttl = p.ttl ∧ x.tos = p.tos ∧ x.proto = p.proto ∧ x.db = p.db ∧ x.df = p.df ∧ (p.v ≠ 6 → x.id = p.id ∧ x.frag = p.frag) ∧ (p.v = 6 → x.id = a.id ∧ x.frag = true) ∧ x.more = mo ∧ x.off = (s : Int) ∧ x.o = f.o ∧ x.d = d := by
    intro f s d mo hf hx
    subst hx
    by_cases hv : p.v = 6
    · rcases hf with rfl | rfl
      · unfold plcP fstP; rw [if_pos hv]; exact ⟨rfl, rfl, rfl, rfl, rfl, fun e => absurd hv e, fun _ => ⟨rfl, rfl⟩, rfl, rfl, rfl, rfl⟩
      · unfold plcP latP fstP; rw [if_pos hv]; exact ⟨rfl, rfl, rfl, rfl, rfl, fun e => absurd hv e, fun _ => ⟨rfl, rfl⟩, rfl, rfl, rfl, rfl⟩
    · rcases hf with rfl | rfl
      · unfold plcP fstP; rw [if_neg hv]; exact ⟨rfl, rfl, rfl, rfl, rfl, fun _ => ⟨rfl, rfl⟩, fun e => absurd e hv, rfl, rfl, rfl, rfl⟩
      · unfold plcP latP fstP; rw [if_neg hv]; exact ⟨rfl, rfl, rfl, rfl, rfl, fun _ => ⟨rfl, rfl⟩, fun e => absurd e hv, rfl, rfl, rfl, rfl⟩
  obtain ⟨e1, e2, e3, e4, e5, e6, e7, e8, e9, e10, e11⟩ := key _ _ _ _ (by
    by_cases hk : k = 0
    · exact .inl (if_pos hk)
    · exact .inr (if_neg hk)) h1
  refine ⟨e1, e2, e3, e4, e5, e6, e7, e8, e9, ?_, e11⟩
  rw [e10]
  by_cases hk : k = 0
  · rw [if_pos hk, if_pos hk, fst_o]
  · rw [if_neg hk, if_neg hk]; rfl
/-- A fragmentation of two pieces and more, none of them empty. -/
structure Frg (p : Pk) (m : Int) (l : List Pk) : Prop where
  is : isP p m l = true
  two : 2 ≤ l.length
  pos : ∀ x ∈ l, 0 < x.d.length
theorem twoPk_of {l : List Pk} (h : 2 ≤ l.length) : ∃ a b r, l = a :: b :: r := by
  match l, h with
  | a :: b :: r, _ => exact ⟨a, b, r, rfl⟩
theorem Frg.pf {p : Pk} {m : Int} {l : List Pk} (h : Frg p m l) : ∃ t, (∀ k x, l[k]? = some x → Pf p t l k x) ∧ (∀ x, l[0]? = some x → x.id = t) := by
  obtain ⟨a, b, r, rfl⟩ := twoPk_of h.two
  exact ⟨a.id, fun k x hx => is_pf h.is k x hx, fun x hx => by simp at hx; rw [hx]⟩
theorem is_two_pf {p : Pk} {m : Int} {l : List Pk} (h : isP p m l = true) (h2 : 2 ≤ l.length) : ∃ t, (∀ k x, l[k]? = some x → Pf p t l k x) ∧ (∀ x, l[0]? = some x → x.id = t) := by
  obtain ⟨a, b, r, rfl⟩ := twoPk_of h2
  exact ⟨a.id, fun k x hx => is_pf h k x hx, fun x hx => by simp at hx; rw [hx]⟩
theorem is_sum {p : Pk} {m : Int} {l : List Pk} (h : isP p m l = true) (h2 : 2 ≤ l.length) : sumD l = p.d.length := by
  obtain ⟨a, b, r, rfl⟩ := twoPk_of h2
  have := part_sum _ _ _ (is_part h); omega
theorem is_unc {p : Pk} {m : Int} {l : List Pk} (h : isP p m l = true) : Unc p := by
  unfold isP at h; simp only [Bool.and_eq_true] at h; exact (uncut_iff p).1 h.1.1
theorem not_is {p : Pk} {m : Int} {l : List Pk} (h : isP p m l = true → False) : isP p m l = false := by
  cases e : isP p m l with
  | false => rfl
  | true => exact absurd e (fun e => h e)
/-- One alone. -/
theorem no_one {p : Pk} {m : Int} {l : List Pk} (h : Frg p m l) {k : Nat} {x : Pk} (hx : l[k]? = some x) : isP p m [x] = false := not_is fun e => by
  obtain ⟨t, hp, -⟩ := h.pf
  have hf := hp k x hx
  have hu := is_unc h.is
  have hxp : x = p := by
    unfold isP at e; simp only [Bool.and_eq_true] at e; exact (dP_iff _ _).1 e.2.2
  subst hxp
  have h1 := hf.more; have h2 := hf.off
  rw [hu.more] at h1
  rw [hu.off] at h2
  have hk : k + 1 = l.length := by
    have := (List.getElem?_eq_some_iff.1 hx).1
    have := of_decide_eq_false h1.symm
    omega
  have htw := h.two
  have h0 : sumD (l.take k) = 0 := by omega
  obtain ⟨a, b, r, rfl⟩ := twoPk_of htw
  have hpa := h.pos a (by simp)
  obtain ⟨j, rfl⟩ : ∃ j, k = j + 1 := ⟨k - 1, by simp at hk; omega⟩
  simp only [List.take_succ_cons, sumD] at h0
  omega
theorem sumD_erase : ∀ {l : List Pk} {i : Nat} {x : Pk}, l[i]? = some x → sumD (l.take i ++ l.drop (i + 1)) + x.d.length = sumD l
  | [], i, x, h => by simp at h
  | y :: r, 0, x, h => by simp at h; subst h; simp [sumD]; omega
  | y :: r, i + 1, x, h => by
    have := sumD_erase (l := r) (i := i) (x := x) (by simpa using h)
    simp only [List.take_succ_cons, List.drop_succ_cons, List.cons_append, sumD]; omega
/-- One left out. -/
theorem no_less {p : Pk} {m : Int} {l : List Pk} (h : Frg p m l) {i : Nat} {x : Pk} (hx : l[i]? = some x) : isP p m (l.take i ++ l.drop (i + 1)) = false := by
  have hi := (List.getElem?_eq_some_iff.1 hx).1
  have hlen : (l.take i ++ l.drop (i + 1)).length = l.length - 1 := by simp; omega
  have htw := h.two
  by_cases h2 : 2 ≤ l.length - 1
  · refine not_is fun e => ?_
    have h1 := is_sum e (by omega)
    have h3 := is_sum h.is htw
    have h4 := sumD_erase hx
    have h5 := h.pos x (List.mem_of_getElem? hx)
    omega
  · have : ∃ (k : Nat) (y : Pk), l.take i ++ l.drop (i + 1) = [y] ∧ l[k]? = some y := by
      obtain ⟨a, b, r, rfl⟩ := twoPk_of htw
      have hr : r = [] := List.eq_nil_of_length_eq_zero (by have h3 := h2; simp only [List.length_cons] at h3; omega)
      subst hr
      simp at hi
      obtain rfl | rfl : i = 0 ∨ i = 1 := by omega
      · exact ⟨1, b, by simp, by simp⟩
      · exact ⟨0, a, by simp, by simp⟩
    obtain ⟨k, y, e, hy⟩ := this
    rw [e]; exact no_one h hy
/-- One doubled. -/
theorem no_more' {p : Pk} {m : Int} {l : List Pk} (h : Frg p m l) {i : Nat} {x : Pk} (hx : l[i]? = some x) : isP p m (l ++ [x]) = false := not_is fun e => by
  have htw := h.two
  have h1 := is_sum e (by simp; omega)
  have h3 := is_sum h.is htw
  have h5 := h.pos x (List.mem_of_getElem? hx)
  rw [sumD_app] at h1
  simp only [sumD] at h1
  omega
theorem sumD_lt : ∀ {l : List Pk} {i j : Nat}, (∀ x ∈ l, 0 < x.d.length) → i < j → i < l.length → sumD (l.take i) < sumD (l.take j)
  | [], i, j, _, _, h => by simp at h
  | y :: r, 0, j + 1, hp, _, _ => by
    have := hp y (by simp)
    simp only [List.take_zero, List.take_succ_cons, sumD]; omega
  | y :: r, i + 1, j + 1, hp, hij, h => by
    have := sumD_lt (l := r) (i := i) (j := j) (fun x hx => hp x (by simp [hx])) (by omega) (by simpa using h)
    simp only [List.take_succ_cons, sumD]; omega
/-- One set anew at i, of the same length. -/
theorem sumD_set : ∀ {l : List Pk} {i : Nat} {x y : Pk} (k : Nat), l[i]? = some x → y.d.length = x.d.length → sumD ((l.set i y).take k) = sumD (l.take k)
  | [], i, x, y, k, h, e => by simp at h
  | z :: r, 0, x, y, 0, h, e => by simp
  | z :: r, 0, x, y, k + 1, h, e => by simp at h; subst h; simp only [List.set_cons_zero, List.take_succ_cons, sumD]; omega
  | z :: r, i + 1, x, y, 0, h, e => by simp
  | z :: r, i + 1, x, y, k + 1, h, e => by
    have := sumD_set (l := r) (i := i) (x := x) (y := y) k (by simpa using h) e
    simp only [List.set_cons_succ, List.take_succ_cons, sumD]; omega
theorem sumD_setall {l : List Pk} {i : Nat} {x y : Pk} (h : l[i]? = some x) (hy : y.d.length < x.d.length) : sumD (l.set i y) < sumD l := by
  induction l generalizing i with
  | nil => simp at h
  | cons z r ih =>
    cases i with
    | zero => simp at h; subst h; simp only [List.set_cons_zero, sumD]; omega
    | succ i => have := ih (by simpa using h); simp only [List.set_cons_succ, sumD]; omega
theorem no_short {p : Pk} {m : Int} {l : List Pk} (h : Frg p m l) {i : Nat} {x y : Pk} (hx : l[i]? = some x) (hy : y.d.length < x.d.length) : isP p m (l.set i y) = false := not_is fun e => by
  have htw := h.two
  have h1 := is_sum e (by simpa using htw)
  have h3 := is_sum h.is htw
  have h4 := sumD_setall hx hy
  omega
/-- Two changed about. -/
theorem no_swap {p : Pk} {m : Int} {l : List Pk} (h : Frg p m l) {a b : Nat} {x y : Pk} (hab : a < b) (hx : l[a]? = some x) (hy : l[b]? = some y) : isP p m ((l.set a y).set b x) = false := not_is fun e => by
  have htw := h.two
  obtain ⟨t, hp, -⟩ := is_two_pf e (by simpa using htw)
  obtain ⟨t', hq, -⟩ := h.pf
  have ha := (List.getElem?_eq_some_iff.1 hx).1
  have hb := (List.getElem?_eq_some_iff.1 hy).1
  have g1 : ((l.set a y).set b x)[a]? = some y := by rw [List.getElem?_set_ne (by omega), List.getElem?_set_self (by omega)]
  have h1 := (hp a y g1).off
  have h2 := (hq b y hy).off
  have h3 : ((l.set a y).set b x).take a = l.take a := by
    rw [List.take_set_of_le (by omega), List.take_set_of_le (Nat.le_refl _)]
  rw [h3] at h1
  have h4 := sumD_lt h.pos hab ha
  omega
/-- One field of one piece changed. -/
theorem no_set {p : Pk} {m : Int} {l : List Pk} (h : Frg p m l) {i : Nat} {x y : Pk} (hx : l[i]? = some x) (hl : y.d.length = x.d.length)
    (hne : y.ttl ≠ x.ttl ∨ y.tos ≠ x.tos ∨ y.proto ≠ x.proto ∨ y.db ≠ x.db ∨ y.df ≠ x.df ∨ y.id ≠ x.id ∨ y.frag ≠ x.frag ∨ y.more ≠ x.more ∨ y.off ≠ x.off ∨ y.o ≠ x.o ∨ y.d ≠ x.d) : isP p m (l.set i y) = false := not_is fun e => by
  have htw := h.two
  obtain ⟨t, hp, hp0⟩ := is_two_pf e (by simpa using htw)
  obtain ⟨t', hq, hq0⟩ := h.pf
  have hi := (List.getElem?_eq_some_iff.1 hx).1
  have gy : (l.set i y)[i]? = some y := List.getElem?_set_self hi
  have p1 := hp i y gy
  have p2 := hq i x hx
  have s1 := sumD_set (l := l) (i := i) (x := x) (y := y) i hx hl
  have hid : y.id = x.id := by
    by_cases hv : p.v = 6
    · rw [(p1.id6 hv).1, (p2.id6 hv).1]
      obtain ⟨a, b, r, rfl⟩ := twoPk_of htw
      by_cases h0 : i = 0
      · subst h0
        have q1 := (hp 1 b (by simp)).id6 hv
        have q2 := (hq 1 b (by simp)).id6 hv
        rw [← q1.1, ← q2.1]
      · have q1 := hp0 a (by rw [List.getElem?_set_ne (by omega)]; rfl)
        have q2 := hq0 a (by rfl)
        rw [← q1, ← q2]
    · rw [(p1.id4 hv).1, (p2.id4 hv).1]
  have hfr : y.frag = x.frag := by
    by_cases hv : p.v = 6
    · rw [(p1.id6 hv).2, (p2.id6 hv).2]
    · rw [(p1.id4 hv).2, (p2.id4 hv).2]
  rcases hne with h1 | h1 | h1 | h1 | h1 | h1 | h1 | h1 | h1 | h1 | h1
  · exact h1 (by rw [p1.ttl, p2.ttl])
  · exact h1 (by rw [p1.tos, p2.tos])
  · exact h1 (by rw [p1.proto, p2.proto])
  · exact h1 (by rw [p1.db, p2.db])
  · exact h1 (by rw [p1.df, p2.df])
  · exact h1 hid
  · exact h1 hfr
  · exact h1 (by rw [p1.more, p2.more, List.length_set])
  · exact h1 (by rw [p1.off, p2.off, s1])
  · exact h1 (by rw [p1.o, p2.o])
  · exact h1 (by rw [p1.d, p2.d, s1, hl])

/-! Pieces made one behind the other. -/
structure Bit (p f x : Pk) (m : Int) (n s : Nat) : Prop where
  pos : 0 < s
  le : n + s ≤ p.d.length
  n8 : n % 8 = 0
  s8 : n + s = p.d.length ∨ s % 8 = 0
  long : (topP f : Int) + s ≤ m
  eq : x = plcP f n ((p.d.drop n).take s) (decide (n + s < p.d.length))
def Pre (p : Pk) (m : Int) (lat : Pk) : Pk → Nat → List Pk → Nat → Prop
  | _, n, [], e => n = e
  | f, n, x :: r, e => ∃ s, Bit p f x m n s ∧ Pre p m lat lat (n + s) r e
theorem Pre.snoc {p : Pk} {m : Int} {lat : Pk} : ∀ {l : List Pk} {f : Pk} {n e s : Nat} {x : Pk}, Pre p m lat f n l e → Bit p (if l = [] then f else lat) x m e s → Pre p m lat f n (l ++ [x]) (e + s)
  | [], f, n, e, s, x, h, hb => by
    have : n = e := h
    subst this
    rw [if_pos rfl] at hb
    exact ⟨s, hb, rfl⟩
  | y :: r, f, n, e, s, x, h, hb => by
    obtain ⟨t, h1, h2⟩ := h
    rw [if_neg (by simp)] at hb
    exact ⟨t, h1, Pre.snoc h2 (by rw [ite_self]; exact hb)⟩
theorem Pre.le {p : Pk} {m : Int} {lat : Pk} : ∀ {l : List Pk} {f : Pk} {n e : Nat}, Pre p m lat f n l e → n ≤ e
  | [], f, n, e, h => Nat.le_of_eq h
  | y :: r, f, n, e, h => by obtain ⟨t, h1, h2⟩ := h; have := Pre.le h2; omega
theorem Pre.pos {p : Pk} {m : Int} {lat : Pk} : ∀ {l : List Pk} {f : Pk} {n e : Nat}, Pre p m lat f n l e → ∀ x ∈ l, 0 < x.d.length
  | [], f, n, e, h, x, hx => by simp at hx
  | y :: r, f, n, e, h, x, hx => by
    obtain ⟨t, h1, h2⟩ := h
    rcases List.mem_cons.1 hx with rfl | hx
    · rw [h1.eq]; show 0 < ((p.d.drop n).take t).length
      have := h1.pos; have := h1.le
      rw [List.length_take, List.length_drop]; omega
    · exact Pre.pos h2 x hx
theorem Pre.len {p : Pk} {m : Int} {lat : Pk} : ∀ {l : List Pk} {f : Pk} {n e : Nat}, Pre p m lat f n l e → n + l.length ≤ e
  | [], f, n, e, h => Nat.le_of_eq h
  | y :: r, f, n, e, h => by obtain ⟨t, h1, h2⟩ := h; have := Pre.len h2; have := h1.pos; simp only [List.length_cons]; omega
theorem Pre.part {p : Pk} {m : Int} {lat : Pk} (hu : Unc p) (hw : Wf p) (hm : mtuP m p.v = true) (hl : Frm p lat) : ∀ {l : List Pk} {f : Pk} {n : Nat}, Frm p f → Pre p m lat f n l p.d.length → partP p m lat f n l = true
  | [], f, n, hf, h => by
    have h' : n = p.d.length := h
    simp [partP, h']
  | y :: r, f, n, hf, h => by
    obtain ⟨t, h1, h2⟩ := h
    have ih := Pre.part hu hw hm hl hl h2
    have hlen : ((p.d.drop n).take t).length = t := by have := h1.le; rw [List.length_take, List.length_drop]; omega
    have hle := h1.le
    have hpos := h1.pos
    have hx := h1.eq
    have hr : rgtP y = true := by
      rw [hx]
      refine piece_right hu hw hf n _ _ (by rw [hlen]; exact hpos) h1.n8 (by rw [hlen]; exact hle) (fun e => by rw [hlen]; have := h1.s8; have := of_decide_eq_true e; omega) (fun hv => ?_)
      rw [hlen]
      have := (frame_right hu hw hf).2.2.2 hv
      have := h1.long
      have := (mtu_iff _ _).1 hm
      omega
    have hfit : fitsP y m = true := by
      rw [fits_iff]
      refine ⟨hr, ?_⟩
      rw [hx, plc_top]
      show ((topP f + ((p.d.drop n).take t).length : Nat) : Int) ≤ m
      rw [hlen]; have := h1.long; omega
    have hyd : y.d.length = t := by rw [hx]; exact hlen
    have hemp : (!r.isEmpty) = decide (n + t < p.d.length) := by
      cases r with
      | nil => have : n + t = p.d.length := h2; simp; omega
      | cons z q => have := Pre.len h2; simp at this ⊢; omega
    rw [partP, hfit, hyd, ih, hemp, (dP_iff _ _).2 hx]
    simp [hle]
/-- A parting of two pieces and more is a fragmentation. -/
theorem Pre.frg {p : Pk} {m id : Int} {l : List Pk} (hu : Unc p) (hw : Wf p) (hm : mtuP m p.v = true) (hdf : p.df = false) (h0 : 0 ≤ id) (h1 : id ≤ 4294967295) (h : Pre p m (latP p id) (fstP p id) 0 l p.d.length) (h2 : 2 ≤ l.length) : Frg p m l := by
  refine ⟨?_, h2, h.pos⟩
  have hp := h.part hu hw hm (hu.lat hw h0 h1) (hu.fst hw h0 h1)
  obtain ⟨a, b, r, rfl⟩ := twoPk_of h2
  have ha : a.id = (fstP p id).id := by
    obtain ⟨s, hb, -⟩ := h
    rw [hb.eq]; rfl
  unfold isP
  rw [(uncut_iff p).2 hu, hm]
  show (true && true && (!p.df && partP p m (latP p a.id) (fstP p a.id) 0 _)) = true
  rw [hdf, ha, fst_id, lat_id, hp]; rfl
/-- Of less than two pieces there is one just where it fits; none is no fragmentation. -/
theorem is_none (p : Pk) (m : Int) : isP p m [] = false := by unfold isP; simp
theorem is_self {p : Pk} {m : Int} (hu : Unc p) (hm : mtuP m p.v = true) : isP p m [p] = fitsP p m := by
  unfold isP; rw [(uncut_iff p).2 hu, hm]
  show (true && true && (fitsP p m && dP p p)) = _
  rw [(dP_iff p p).2 rfl]; simp
end Go.Proofs.YtbnnfbfmomafnaaDoor

namespace Go.Proofs.YtbnnfbfmomafnaaDoor
open Go.ChangeShapes Go.WideShapes Go.ChangeAt Go.RowKit Go.Deep Num
set_option linter.unusedVariables false
set_option linter.unusedSimpArgs false
set_option maxHeartbeats 40000000
set_option maxRecDepth 100000

/-- Numbers that came in. -/
def Ints (w : World) (a : Option Addr) (n : Nat) : Prop := ∀ i, i < n → ∃ b o z, a = some ⟨b, o, none⟩ ∧ w.cell? ⟨b, o + i, none⟩ = some (.int .i64 z) ∧ i64ok z
theorem Ints.on {w w' : World} {a : Option Addr} {n : Nat} (h : Ints w a n) (hw : Away [] w w') : Ints w' a n := fun i hi => by
  obtain ⟨b, o, z, h1, h2, h3⟩ := h i hi
  exact ⟨b, o, z, h1, hw.cell (by simp) h2, h3⟩
/-- A packet's variable with lists of its own. -/
structure Bx (B : Nat) (w : World) (g : Nat) (p : Pk) (oo dd : Value) : Prop where
  box : BoxP w g p oo dd
  o : Owns w oo p.o
  d : Owns w dd p.d
  no : New B oo
  nd : New B dd
  ap : ∀ k, oo.ownBlock = some k → dd.ownBlock ≠ some k
  go : ∀ k, oo.ownBlock = some k → k ≠ g
  gd : ∀ k, dd.ownBlock = some k → k ≠ g
  gb : B ≤ g
  ad : Ad p
section
variable {B g : Nat} {w w' : World} {p p' : Pk} {oo dd v : Value} {l : List Int}
theorem Bx.on (h : Bx B w g p oo dd) (hw : Away [] w w') : Bx B w' g p oo dd := ⟨h.box.on hw, h.o.away hw (by simp), h.d.away hw (by simp), h.no, h.nd, h.ap, h.go, h.gd, h.gb, h.ad⟩
theorem Bx.fld (h : Bx B w g p oo dd) (hb : BoxP w' g p' oo dd) (hw : Away [g] w w') (ha : Ad p') (ho : p'.o = p.o) (hd : p'.d = p.d) : Bx B w' g p' oo dd :=
  ⟨hb, by rw [ho]; exact h.o.away hw (fun k hk => by simpa using h.go k hk), by rw [hd]; exact h.d.away hw (fun k hk => by simpa using h.gd k hk), h.no, h.nd, h.ap, h.go, h.gd, h.gb, ha⟩
theorem Bx.setO (h : Bx B w g p oo dd) (hown : Owns w v p'.o) (hn : ∀ k, v.ownBlock = some k → B ≤ k ∧ k ≠ g ∧ dd.ownBlock ≠ some k) (hb : BoxP w' g p' v dd) (hw : Away [g] w w') (ha : Ad p') (hd : p'.d = p.d) : Bx B w' g p' v dd :=
  ⟨hb, hown.away hw (fun k hk => by simpa using (hn k hk).2.1), by rw [hd]; exact h.d.away hw (fun k hk => by simpa using h.gd k hk), fun k hk => (hn k hk).1, h.nd, fun k hk => (hn k hk).2.2, fun k hk => (hn k hk).2.1, h.gd, h.gb, ha⟩
theorem Bx.setD (h : Bx B w g p oo dd) (hown : Owns w v p'.d) (hn : ∀ k, v.ownBlock = some k → B ≤ k ∧ k ≠ g ∧ oo.ownBlock ≠ some k) (hb : BoxP w' g p' oo v) (hw : Away [g] w w') (ha : Ad p') (ho : p'.o = p.o) : Bx B w' g p' oo v :=
  ⟨hb, by rw [ho]; exact h.o.away hw (fun k hk => by simpa using h.go k hk), hown.away hw (fun k hk => by simpa using (hn k hk).2.1), h.no, fun k hk => (hn k hk).1, fun k hk e => (hn k e).2.2 hk, h.go, fun k hk => (hn k hk).2.1, h.gb, ha⟩
theorem Bx.mine (h : Bx B w g p oo dd) : Mine w B p oo dd := ⟨h.o, h.d, h.no, h.nd, h.ap⟩
end
theorem and16 (n : Int) : 0 ≤ bits .and .i64 n 65535 ∧ bits .and .i64 n 65535 ≤ 65535 := by
  have h : (BitVec.ofInt 64 65535).toNat = 65535 := by decide
  have key : (BitVec.ofInt 64 n &&& BitVec.ofInt 64 65535).toNat ≤ 65535 := by rw [BitVec.toNat_and, h]; exact Nat.and_le_right
  have e : bits .and .i64 n 65535 = IntKind.i64.wrap ((BitVec.ofInt 64 n &&& BitVec.ofInt 64 65535).toNat : Nat) := rfl
  rw [e, IntKind.wrap_i64]
  generalize (BitVec.ofInt 64 n &&& BitVec.ofInt 64 65535).toNat = m at *
  omega
/-- The frame of the next piece. -/
def frm (p : Pk) (id : Int) (n : Nat) : Pk := if n = 0 then fstP p id else latP p id
/-- The piece at work: the frame, where it is, all data. -/
def wrk (p : Pk) (id : Int) (n : Nat) : Pk := { frm p id n with off := n, d := p.d }
theorem frm_frm {p : Pk} (hu : Unc p) (hw : Wf p) {id : Int} (h0 : 0 ≤ id) (h1 : id ≤ 4294967295) (n : Nat) : Frm p (frm p id n) := by
  unfold frm; split
  · exact hu.fst hw h0 h1
  · exact hu.lat hw h0 h1
theorem frm_ad {p : Pk} (h : Ad p) (id : Int) (n : Nat) : Ad (frm p id n) := by
  unfold frm; split
  · exact fst_ad h id
  · exact lat_ad h id
theorem wrk_ad {p : Pk} (h : Ad p) (id : Int) (n : Nat) : Ad (wrk p id n) := frm_ad h id n
def PartOut (w : World) (p : Pk) (m id : Int) (E : Ending) (w' : World) : Prop :=
  ∃ v xs, E = .returned v ∧ Cuts w' w.heap.size v xs ∧ Pre p m (latP p id) (fstP p id) 0 (xs.map X.p) p.d.length ∧ Away [] w w'
theorem lparted_c (p : Pk) (ov dv : Value) (m : Int) (sa : Option Addr) (sn sc : Nat) (id : Int) (w : World) (hp : Pkt w p ov dv) (hg : Glob w) (hu : Unc p) (hv : p.v = 4 ∨ p.v = 6) (hm : mtuP m p.v = true) (hI : Ints w sa sn) (hsn : sn ≤ 140737488355328) (hD : p.d.length ≤ 4000) (h0 : 0 ≤ id) (h1 : id ≤ 4294967295) :
    Calls Tryd.prog 15 #[.agg (csP p ov dv), .int .i64 m, .slice sa sn sc, .int .u32 id] w (PartOut w p m id) := by
  have HAD := Lib.hid hp.wf.ad
  have HP := Lib.hid hp; have HG := Lib.hid hg; have HW := Lib.hid hp.wf; have HU := Lib.hid hu; have HM := Lib.hid hm; have HV := Lib.hid hv; have HI := Lib.hid hI
  have hm1 : 68 ≤ m ∧ m ≤ 65535 := by
    have := (mtu_iff _ _).1 hm
    revert this; split <;> (intro this; omega)
  obtain ⟨hm1, hm2⟩ := hm1
  clear hp hg hu hv hm hI
  go_enter Tryd.func15, Tryd.ntmps15
  go_wp2_with (refine wpList_box28 rfl _ rfl p ov dv rfl ?_; refine Hid.out ?_)
  refine Lib.hid ?_
  intro g4 w1 hg4 hb haw
  have HB := Lib.hid hb
  replace HP := Lib.hid (HP.out.on haw)
  replace HG := Lib.hid (HG.out.on haw)
  replace HI := Lib.hid (HI.out.on haw)
  have HA1 := Lib.hid haw
  have hS1 := haw.size
  clear hb haw hg4
  obtain ⟨da, dc, hdv, hd1, hd2, hdr⟩ := HP.out.d
  obtain ⟨oa, oc, hov, ho1, ho2, hor⟩ := HP.out.o
  obtain ⟨D, hDD⟩ : ∃ D, D = p.d.length := ⟨_, rfl⟩
  have HDD := Lib.hid hDD
  have HDV := Lib.hid hdv
  have HDR := Lib.hid hdr
  have HOV := Lib.hid hov
  have HOR := Lib.hid hor
  have HO1 := Lib.hid ho1
  have HO2 := Lib.hid ho2
  rw [← hDD] at hD hd1 hdv
  have HDV2 := Lib.hid hdv
  clear hdv hdr hov hor hDD hd2 ho1 ho2
  go_wp2_with fail
  go_loopw [9, 10] (fun v av wr => ∃ (n0 : Nat) (cs : List X), av = .int .i64 (n0 : Int) ∧ n0 ≤ D ∧ cs.length ≤ n0 ∧ Cuts wr w1.heap.size v cs ∧ Pre p m (latP p id) (fstP p id) 0 (cs.map X.p) n0 ∧ (n0 = D ∨ n0 % 8 = 0) ∧ Away [] w1 wr) (fun _ av _ => D - (intOf av).toNat)
  case atStart => exact ⟨0, [], rfl, by omega, Nat.le_refl _, Cuts.nil _ _, rfl, by omega, Away.refl _ _⟩
  case round =>
    obtain ⟨n0, cs, rfl, hn, hcl, hcu, hpre, hn8, haw⟩ := hrel
    have HCU := Lib.hid hcu; have HPR := Lib.hid hpre; have HAW := Lib.hid haw
    clear hcu hpre haw
    have c45 : wr.cell? ⟨g4, 45, none⟩ = some (.slice da D dc) := by rw [← HDV2.out]; exact ((HB.out.on HAW.out).cells HAD.out).d
    by_cases hlt : n0 < D
    · have n8 : n0 % 8 = 0 := by omega
      have i1 : (n0 : Int) < (D : Int) := by omega
      have i2 : 0 ≤ (n0 : Int) := by omega
      obtain ⟨A, hA⟩ : ∃ A, A = wr.heap.size := ⟨_, rfl⟩
      have KO := Lib.hid (ownP_c p ov dv wr (HP.out.on HAW.out))
      have HBr := Lib.hid (HB.out.on HAW.out)
      go_wp2_with (refine wpList_load28 rfl _ rfl g4 rfl p _ _ (by exact HBr.out) HAD.out ?_)
      refine KO.out.mono ?_
      rintro E y1 ⟨po, pd, rfl, hmine, haw1⟩
      have HMI := Lib.hid hmine
      have HP1 := Lib.hid hmine.o.one; have HP2 := Lib.hid hmine.d.one
      have HAR := Lib.hid haw1
      clear hmine haw1 KO c45
      go_wp2_with (refine wpList_new28 rfl rfl rfl _ _ rfl p po pd (fun g => rfl) (fun g => rfl) HAD.out HP1.out HP2.out ?_; refine Hid.out ?_)
      refine Lib.hid ?_
      intro g11 y2 hg11 hb haw
      have HBX : Hid (Bx wr.heap.size y2 g11 p po pd) := ⟨hb, HMI.out.o.away haw (by simp), HMI.out.d.away haw (by simp), HMI.out.no, HMI.out.nd, HMI.out.ap, fun z hz e => by have := HMI.out.o.lt z hz; omega, fun z hz e => by have := HMI.out.d.lt z hz; omega, Nat.le_trans HAR.out.size hg11, HAD.out⟩
      replace HAR := Lib.hid (HAR.out.trans haw)
      clear hb haw hg11 HMI HBr HP1 HP2
      go_wp2_with (refine wpList_putF rfl 3 _ _ rfl g11 43 rfl (.int .i64 (n0 : Int)) rfl (fun u h1 h2 => put3 _ _ _ u h1 h2) p { p with off := (n0 : Int) } _ _ _ _ (by exact HBX.out.box) (by exact HAD.out) (by omega) (by exact (csP_set (p := p) HAD.out _ _).2.2.2.2.2.2.2.2.2.2.2.1 _) ?_; refine Hid.out ?_)
      refine Lib.hid ?_
      intro y3 hb haw
      replace HBX : Hid (Bx wr.heap.size y3 g11 { p with off := (n0 : Int) } po pd) := HBX.out.fld hb haw HAD.out rfl rfl
      replace HAR := Lib.hid (HAR.out.next haw (fun z hz => .inr (by simp at hz; rw [hz]; exact HBX.out.gb)))
      clear hb haw
      have HFR := Lib.hid (frm_frm HU.out HW.out h0 h1 n0)
      have hrm := room_eq HU.out HW.out HFR.out HM.out
      have htop := (frame_right HU.out HW.out HFR.out).2.2.1
      have htp := top_pos (frm p id n0)
      obtain ⟨T, hT⟩ : ∃ T, T = topP (frm p id n0) := ⟨_, rfl⟩
      rw [← hT] at hrm htop htp
      have HT := Lib.hid hT
      have hR8 : 8 ≤ m - (T : Int) := by have := hrm.2.2.1; have := hrm.2.2.2.1; omega
      clear hrm hT
      have c0 := ((HB.out.on (HAW.out.trans HAR.out)).cells HAD.out).v
      go_upto_if 27 with fail
      go_cut [12] (fun rv wc => ∃ oo, rv = .int .i64 (m - (T : Int)) ∧ Bx wr.heap.size wc g11 (wrk p id n0) oo pd ∧ Away [] wr wc)
      case first =>
        as_aux_lemma =>
        have HBp := Lib.hid ((HB.out.on (HAW.out.trans HAR.out)).cells HAD.out)
        rcases HV.out with hv4 | hv6
        · have hd6 : (p.v == 6) = false := by rw [hv4]; rfl
          have hn6 : p.v ≠ 6 := by omega
          have hE : frm p id n0 = { p with d := [], o := if n0 = 0 then p.o else carryP p.o } := by
            unfold frm latP fstP
            rw [if_neg hn6]
            split <;> rfl
          have hTT : T = 20 + (if n0 = 0 then p.o else carryP p.o).length := by
            rw [HT.out, hE]; unfold topP; rw [if_neg (show ¬ p.v = 6 from hn6)]
          have hWK : wrk p id n0 = { p with off := (n0 : Int), o := if n0 = 0 then p.o else carryP p.o } := by unfold wrk; rw [hE]
          have HWK := Lib.hid hWK
          clear hWK hE hv4
          by_cases hz : n0 = 0
          · subst hz
            rw [if_pos rfl] at hTT
            have HWK2 : Hid (wrk p id 0 = { p with off := ((0 : Nat) : Int) }) := by refine Lib.hid ?_; rw [HWK.out, if_pos rfl]
            have hle := (HU.out.all.2 hn6).1
            obtain ⟨xa, xc, hxo⟩ := HBX.out.o.shape
            have c44 := (HBX.out.box.cells HAD.out).o
            rw [hxo] at c44
            have hol : ({ p with off := ((0 : Nat) : Int) } : Pk).o.length = p.o.length := rfl
            rw [hol] at c44
            go_wp2_with fail
            go_meet
            exact ⟨po, congrArg (Value.int .i64) (by omega), by rw [HWK2.out]; exact HBX.out, HAR.out⟩
          · rw [if_neg hz] at hTT
            have HWK2 : Hid (wrk p id n0 = { p with off := (n0 : Int), o := carryP p.o }) := by refine Lib.hid ?_; rw [HWK.out, if_neg hz]
            have n4 : (0 : Int) < (n0 : Int) := by omega
            have c44 : y3.cell? ⟨g4, 44, none⟩ = some (.slice oa p.o.length oc) := by rw [← HOV.out]; exact HBp.out.o
            have KC := Lib.hid (own_any oa p.o p.o.length oc y3 rfl (HOR.out.on (HAW.out.trans HAR.out)))
            have hlc := (carry_valid HW.out.o).2.2.2
            have hle := (HU.out.all.2 hn6).1
            have HPOL : Hid (p.o.length ≤ 40) := hle
            go_wp2_with fail
            refine KC.out.mono ?_
            rintro E y4 ⟨cv, rfl, hown, hnew, haw, hby, hln⟩
            obtain ⟨x1, x3, hcv⟩ := hown.shape
            subst hcv
            have hsl := (hown.sl HW.out.o (by omega)).of
            have KC2 := Lib.hid (S4.carry_c x1 p.o p.o.length x3 y4 rfl hsl.2.1 hsl.2.2.2 (HG.out.on (HAW.out.trans (HAR.out.trans haw))))
            replace HBX := Lib.hid (HBX.out.on haw)
            replace HAR := Lib.hid (HAR.out.trans haw)
            clear hown hnew haw KC c44 hsl
            go_wp2_with fail
            refine KC2.out.mono ?_
            rintro E y5 ⟨cw, rfl, hown, hnew, haw⟩
            have HB3 := Lib.hid (HBX.out.on haw)
            have HAR3 := Lib.hid (HAR.out.trans haw)
            have hl1 := HBX.out.box.lt
            have HNW : Hid (∀ z, cw.ownBlock = some z → wr.heap.size ≤ z ∧ z ≠ g11 ∧ pd.ownBlock ≠ some z) := fun z hz => by
              have h1 := hnew z hz
              have h2 := HAR.out.size
              exact ⟨by omega, by omega, fun e => by have h3 := HBX.out.d.lt z e; omega⟩
            have HOW := Lib.hid hown
            obtain ⟨x4, x6, hcw⟩ := hown.shape
            have hcl2 : (carryP p.o).length ≤ 40 := by have := (carry_valid HW.out.o).2.1; omega
            obtain ⟨CL, hCL⟩ : ∃ CL, CL = (carryP p.o).length := ⟨_, rfl⟩
            rw [← hCL] at hcw hTT hcl2
            subst hcw
            clear hown hnew haw KC2 HBX HAR hCL
            go_wp2_with (refine wpList_putF rfl 26 _ _ rfl g11 44 rfl (.slice x4 CL x6) rfl (fun u h1 h2 => put26 _ _ _ _ _ u h1 h2) { p with off := (n0 : Int) } { p with off := (n0 : Int), o := carryP p.o } _ _ _ _ (by exact HB3.out.box) (by exact HAD.out) (by omega) (by exact (csP_set (p := { p with off := (n0 : Int) }) HAD.out _ _).2.2.2.2.2.2.2.2.2.2.2.2.1 _ _) ?_; refine Hid.out ?_)
            refine Lib.hid ?_
            intro y6 hb haw
            have HB4 : Hid (Bx wr.heap.size y6 g11 { p with off := (n0 : Int), o := carryP p.o } (.slice x4 CL x6) pd) := HB3.out.setO HOW.out HNW.out hb haw HAD.out rfl
            have HAR4 := Lib.hid (HAR3.out.next haw (fun z hz => .inr (by simp at hz; rw [hz]; exact HB3.out.gb)))
            have c44 := (HB4.out.box.cells HAD.out).o
            clear hb haw
            go_wp2_with fail
            go_meet
            exact ⟨_, congrArg (Value.int .i64) (by omega), by rw [HWK2.out]; exact HB4.out, HAR4.out⟩
        · have hd6 : (p.v == 6) = true := by rw [hv6]; rfl
          have hpo : p.o = [] := by
            have := HU.out.r
            unfold rgtP at this; rw [if_pos hv6, S6.right_iff] at this; exact this.o
          have hE : frm p id n0 = { p with d := [], frag := true, id := id } := by
            unfold frm latP fstP
            rw [if_pos hv6, carry_nil hpo]
            split
            · rfl
            · rw [← hpo]
          have hTT : T = 48 := by
            rw [HT.out, hE]; unfold topP; rw [if_pos (show p.v = 6 from hv6)]; rfl
          have HWK : Hid (wrk p id n0 = { p with off := (n0 : Int), frag := true, id := id }) := by refine Lib.hid ?_; unfold wrk; rw [hE]
          clear hE hpo hv6
          go_wp2_with (refine wpList_putF rfl 4 _ _ rfl g11 42 rfl (.bool true) rfl (fun u h1 h2 => put4 _ _ _ u h1 h2) { p with off := (n0 : Int) } { p with off := (n0 : Int), frag := true } _ _ _ _ (by exact HBX.out.box) (by exact HAD.out) (by omega) (by exact (csP_set (p := { p with off := (n0 : Int) }) HAD.out _ _).2.2.2.2.2.2.2.2.2.2.1 _) ?_; refine Hid.out ?_)
          refine Lib.hid ?_
          intro y4 hb haw
          replace HBX : Hid (Bx wr.heap.size y4 g11 { p with off := (n0 : Int), frag := true } po pd) := HBX.out.fld hb haw HAD.out rfl rfl
          replace HAR := Lib.hid (HAR.out.next haw (fun z hz => .inr (by simp at hz; rw [hz]; exact HBX.out.gb)))
          clear hb haw
          go_wp2_with (refine wpList_putF rfl 25 _ _ rfl g11 39 rfl (.int .u32 id) rfl (fun u h1 h2 => put25 _ _ _ u h1 h2) { p with off := (n0 : Int), frag := true } { p with off := (n0 : Int), frag := true, id := id } _ _ _ _ (by exact HBX.out.box) (by exact HAD.out) (by omega) (by exact (csP_set (p := { p with off := (n0 : Int), frag := true }) HAD.out _ _).2.2.2.2.2.2.2.1 _) ?_; refine Hid.out ?_)
          refine Lib.hid ?_
          intro y5 hb haw
          replace HBX : Hid (Bx wr.heap.size y5 g11 { p with off := (n0 : Int), frag := true, id := id } po pd) := HBX.out.fld hb haw HAD.out rfl rfl
          replace HAR := Lib.hid (HAR.out.next haw (fun z hz => .inr (by simp at hz; rw [hz]; exact HBX.out.gb)))
          clear hb haw
          go_wp2_with fail
          go_meet
          exact ⟨po, congrArg (Value.int .i64) (by omega), by rw [HWK.out]; exact HBX.out, HAR.out⟩
      case rest =>
      obtain ⟨oo, rfl, hbx, har⟩ := hcut
      generalize wc = y7 at *
      clear c0
      replace HBX := Lib.hid hbx
      replace HAR := Lib.hid har
      clear hbx har
      obtain ⟨R, hR⟩ : ∃ R : Nat, (R : Int) = m - (T : Int) := ⟨(m - (T : Int)).toNat, by omega⟩
      rw [← hR] at hR8 ⊢
      have hRm : R ≤ 65535 := by omega
      have HRT := Lib.hid hR
      clear hR
      obtain ⟨va, vc, hu9, -, -, -, -⟩ := HCU.out.pks (by omega)
      subst hu9
      obtain ⟨N, hN⟩ : ∃ N : Nat, (N : Int) = (R : Int) / 8 * 8 := ⟨R / 8 * 8, by omega⟩
      have hNR : N ≤ R ∧ N % 8 = 0 ∧ 8 ≤ N := by omega
      have d2 : (R : Int) / 8 * 8 = (N : Int) := hN.symm
      have d1 : (0 : Int) ≤ (R : Int) := by omega
      clear hN
      go_upto_region 14 with fail
      go_cut [53] (fun v wx => v = .bool (decide (0 < sn ∧ 8 < N)) ∧ wx = y7)
      case first =>
        as_aux_lemma =>
        by_cases hs0 : 0 < sn
        · have d3 : (0 : Int) < (sn : Int) := by omega
          by_cases h8 : 8 < N
          · have d4 : (8 : Int) < (N : Int) := by omega
            go_wp2_with fail
            go_meet
            exact ⟨congrArg Value.bool (by simp; omega), rfl⟩
          · have d4 : ¬ ((8 : Int) < (N : Int)) := by omega
            go_wp2_with fail
            go_meet
            exact ⟨congrArg Value.bool (by simp; omega), rfl⟩
        · have d3 : ¬ ((0 : Int) < (sn : Int)) := by omega
          go_wp2_with fail
          go_meet
          exact ⟨congrArg Value.bool (by simp; omega), rfl⟩
      case rest =>
      obtain ⟨rfl, hwx⟩ := hcut
      subst hwx
      generalize wc = y7 at *
      go_upto_if 53 with fail
      go_cut [13] (fun v wx => ∃ N1 : Nat, v = .int .i64 (N1 : Int) ∧ 8 ≤ N1 ∧ N1 % 8 = 0 ∧ N1 ≤ R ∧ wx = y7)
      case first =>
        as_aux_lemma =>
        by_cases hsb : 0 < sn ∧ 8 < N
        · obtain ⟨hs0, h8⟩ := hsb
          have hdd : decide (0 < sn ∧ 8 < N) = true := by simp; omega
          have d3 : (0 : Int) < (sn : Int) := by omega
          have d4 : (8 : Int) < (N : Int) := by omega
          obtain ⟨k, hk⟩ : ∃ k, k = cs.length % sn := ⟨_, rfl⟩
          have hkn : k < sn := by rw [hk]; exact Nat.mod_lt _ hs0
          have d5 : ((cs.length : Nat) : Int) % (sn : Int) = (k : Int) := by rw [hk]; rfl
          have d5t : Int.tmod ((cs.length : Nat) : Int) (sn : Int) = (k : Int) := by rw [Int.tmod_eq_emod_of_nonneg (by omega)]; exact d5
          have d5n : cs.length % sn = k := hk.symm
          clear hk
          obtain ⟨b, o, z, hsa, hcz, hz⟩ := (HI.out.on (HAW.out.trans HAR.out)) k hkn
          subst hsa
          have hz2 := and16 z
          obtain ⟨e, he⟩ : ∃ e, bits .and .i64 z 65535 = e := ⟨_, rfl⟩
          rw [he] at hz2
          have d6 : 0 ≤ (k : Int) := by omega
          have d7 : ((k : Int)).toNat = k := by omega
          have d8 : (k : Int) < (sn : Int) := by omega
          obtain ⟨M, hM⟩ : ∃ M : Nat, (M : Int) = (N : Int) / 8 := ⟨N / 8, by omega⟩
          have hMN : M * 8 = N := by omega
          have d9 : (N : Int) / 8 = (M : Int) := hM.symm
          clear hM
          have dM : (0 : Int) < (M : Int) := by omega
          obtain ⟨J, hJ⟩ : ∃ J : Nat, (J : Int) = e % (M : Int) := ⟨(e % (M : Int)).toNat, by have := Int.emod_nonneg e (show (M : Int) ≠ 0 by omega); omega⟩
          have hJM : J < M := by have := Int.emod_lt_of_pos e dM; omega
          have d10 : e % (M : Int) = (J : Int) := hJ.symm
          have d10t : Int.tmod e (M : Int) = (J : Int) := by rw [Int.tmod_eq_emod_of_nonneg hz2.1]; exact d10
          clear hJ
          have d11 : (M : Int) ≠ 0 := by omega
          have d13 : (0 : Int) ≤ e := hz2.1
          have d14 : (sn : Int) ≠ 0 := by omega
          go_wp2_with fail
          go_meet
          exact ⟨8 + J * 8, congrArg (Value.int .i64) (by push_cast; omega), by omega, by omega, by omega, rfl⟩
        · have hdd : decide (0 < sn ∧ 8 < N) = false := by simp; omega
          go_wp2_with fail
          go_meet
          exact ⟨N, rfl, by omega, by omega, by omega, rfl⟩
      case rest =>
      obtain ⟨N1, rfl, hN1, hN2, hN3, hwx⟩ := hcut
      subst hwx
      generalize wc = y7 at *
      have c45 : y7.cell? ⟨g4, 45, none⟩ = some (.slice da D dc) := by rw [← HDV2.out]; exact ((HB.out.on (HAW.out.trans HAR.out)).cells HAD.out).d
      go_upto_if 74 with fail
      go_cut [13] (fun v wx => ∃ s : Nat, v = .int .i64 (s : Int) ∧ 0 < s ∧ n0 + s ≤ D ∧ (n0 + s = D ∨ s % 8 = 0) ∧ s ≤ R ∧ wx = y7)
      case first =>
        as_aux_lemma =>
        by_cases hge : D ≤ n0 + N1
        · have d1 : (D : Int) ≤ (n0 : Int) + (N1 : Int) := by omega
          go_wp2_with fail
          go_meet
          exact ⟨D - n0, congrArg (Value.int .i64) (by omega), by omega, by omega, by omega, by omega, rfl⟩
        · have d1 : ¬ ((D : Int) ≤ (n0 : Int) + (N1 : Int)) := by omega
          go_wp2_with fail
          go_meet
          exact ⟨N1, rfl, by omega, by omega, by omega, by omega, rfl⟩
      case rest =>
      obtain ⟨s, rfl, hs1, hs2, hs3, hs4, hwx⟩ := hcut
      subst hwx
      generalize wc = y7 at *
      have hWA := HBX.out.ad
      have i5 : (n0 : Int) + (s : Int) ≤ (D : Int) := by omega
      go_wp2_with (refine wpList_putF rfl 4 _ _ rfl g11 41 rfl (.bool (decide ((n0 : Int) + (s : Int) < (D : Int)))) rfl (fun u h1 h2 => put4 _ _ _ u h1 h2) (wrk p id n0) { wrk p id n0 with more := decide ((n0 : Int) + (s : Int) < (D : Int)) } _ _ _ _ (by exact HBX.out.box) (by exact hWA) (by omega) (by exact (csP_set (p := wrk p id n0) hWA _ _).2.2.2.2.2.2.2.2.2.1 _) ?_; refine Hid.out ?_)
      refine Lib.hid ?_
      intro y8 hb haw
      replace HBX : Hid (Bx wr.heap.size y8 g11 { wrk p id n0 with more := decide ((n0 : Int) + (s : Int) < (D : Int)) } oo pd) := HBX.out.fld hb haw hWA rfl rfl
      replace HAR := Lib.hid (HAR.out.next haw (fun z hz => .inr (by simp at hz; rw [hz]; exact HBX.out.gb)))
      clear hb haw c45
      have c45 : y8.cell? ⟨g4, 45, none⟩ = some (.slice da D dc) := by rw [← HDV2.out]; exact ((HB.out.on (HAW.out.trans HAR.out)).cells HAD.out).d
      obtain ⟨SA, hSA⟩ : ∃ SA, SA = if dc = n0 then da else da.map (·.add n0) := ⟨_, rfl⟩
      have hsl := slice_lh da SA D dc n0 s (n0 : Int) ((n0 : Int) + (s : Int)) hSA rfl rfl (by omega)
      have hrow : Row y8 SA ((p.d.drop n0).take s) := by rw [hSA]; exact (HDR.out.on (HAW.out.trans HAR.out)).sub n0 s dc (by have := HDD.out; omega) (by have := HDD.out; omega)
      have HLS : Hid (((p.d.drop n0).take s).length = s) := by refine Lib.hid ?_; have := HDD.out; rw [List.length_take, List.length_drop]; omega
      have KO := Lib.hid (own_any SA ((p.d.drop n0).take s) s (dc - n0) y8 HLS.out hrow)
      clear hrow hSA
      go_wp2_with fail
      refine KO.out.mono ?_
      rintro E y9 ⟨cv, rfl, hown, hnew, haw, hby, -⟩
      have HNW : Hid (∀ z, cv.ownBlock = some z → wr.heap.size ≤ z ∧ z ≠ g11 ∧ oo.ownBlock ≠ some z) := fun z hz => by
        have h1 := hnew z hz
        have h2 := HAR.out.size
        have h4 := HBX.out.box.lt
        exact ⟨by omega, by omega, fun e => by have h3 := HBX.out.o.lt z e; omega⟩
      replace HBX := Lib.hid (HBX.out.on haw)
      replace HAR := Lib.hid (HAR.out.trans haw)
      have HOW := Lib.hid hown
      have HBY := Lib.hid hby
      obtain ⟨x4, x6, hcw⟩ := hown.shape
      rw [HLS.out] at hcw
      subst hcw
      clear hown hnew haw KO c45 hsl hby
      obtain ⟨Z, hZ⟩ : ∃ Z : Pk, Z = { wrk p id n0 with more := decide ((n0 : Int) + (s : Int) < (D : Int)), d := (p.d.drop n0).take s } := ⟨_, rfl⟩
      have HZ := Lib.hid hZ
      clear hZ
      go_wp2_with (refine wpList_putF rfl 26 _ _ rfl g11 45 rfl (.slice x4 s x6) rfl (fun u h1 h2 => put26 _ _ _ _ _ u h1 h2) { wrk p id n0 with more := decide ((n0 : Int) + (s : Int) < (D : Int)) } Z _ _ _ _ (by exact HBX.out.box) (by exact hWA) (by omega) (by rw [HZ.out]; exact (csP_set (p := { wrk p id n0 with more := decide ((n0 : Int) + (s : Int) < (D : Int)) }) hWA _ _).2.2.2.2.2.2.2.2.2.2.2.2.2 _ _) ?_; refine Hid.out ?_)
      refine Lib.hid ?_
      intro y10 hb haw
      have HZA : Hid (Ad Z) := by rw [HZ.out]; exact hWA
      have HB5 : Hid (Bx wr.heap.size y10 g11 Z oo (.slice x4 s x6)) := HBX.out.setD (by rw [HZ.out]; exact HOW.out) HNW.out hb haw HZA.out (by rw [HZ.out])
      replace HAR := Lib.hid (HAR.out.next haw (fun z hz => .inr (by simp at hz; rw [hz]; exact HBX.out.gb)))
      clear hb haw HBX HOW HNW
      have HZE : Hid (Z = plcP (frm p id n0) n0 ((p.d.drop n0).take s) (decide (n0 + s < p.d.length))) := by
        refine Lib.hid ?_
        rw [HZ.out, ← HDD.out]
        show plcP (frm p id n0) n0 _ _ = _
        congr 1
        apply decide_eq_decide.2; omega
      have HZW : Hid (Wf Z) := by rw [HZE.out]; exact HFR.out.wf HW.out n0 (by omega) _ HBY.out (by rw [HLS.out]; omega) _
      have hO1 := HB5.out.o.one
      have hD1 := HB5.out.d.one
      clear HZ hWA
      have HCU1 := Lib.hid (HCU.out.on HAR.out)
      have HLT : Hid (∀ y ∈ cs, ∀ k, y.o.ownBlock = some k ∨ y.d.ownBlock = some k → k < wr.heap.size) := fun y hy k hk => ((HCU.out.each y hy).2.lto k hk).1
      have HVL := Lib.hid HCU.out.lst.lt
      have hsw := HAW.out.size
      replace HAW := Lib.hid (HAW.out.trans HAR.out)
      have HMN := Lib.hid HB5.out.mine
      have hsy := HAR.out.size
      go_wp2_with (first
        | (refine wpList_load28 rfl _ rfl g11 rfl Z _ _ (by exact HB5.out.box) HZA.out ?_)
        | (refine wpList_build28 rfl _ rfl Z oo (.slice x4 s x6) rfl HZA.out ?_; refine Hid.out ?_))
      refine Lib.hid ?_
      intro gq v2 hgq hbq haw
      replace HCU1 := Lib.hid (HCU1.out.on haw)
      replace HMN := Lib.hid (HMN.out.on haw)
      replace HAW := Lib.hid (HAW.out.trans haw)
      have hs2' := haw.size
      have HBQ := Lib.hid hbq
      clear haw hbq
      go_wp2_with (refine wpList_appP rfl _ _ rfl _ cs rfl (by exact HCU1.out.lst) gq 1 rfl Z oo (.slice x4 s x6) (by exact HBQ.out) HZA.out hO1 hD1 (by omega) ?_; refine Hid.out ?_)
      refine Lib.hid ?_
      intro v' v3 hl3 hgr hmv
      have HCU3 : Hid (Cuts v3 w1.heap.size v' (cs ++ [⟨Z, oo, .slice x4 s x6⟩])) := HCU1.out.snoc ⟨HZW.out, HMN.out.mono (by omega)⟩ (fun y hy k hk => by
        have h1 := HLT.out y hy k hk
        exact ⟨fun e => by have := (HMN.out.lto k (.inl e)).2; omega, fun e => by have := (HMN.out.lto k (.inr e)).2; omega⟩) (fun k hk e => by have h1 := (HMN.out.lto k hk).2; have h2 := HVL.out k e; omega) hl3 hgr hmv (by omega)
      have HA3 : Hid (Away [] w1 v3) := HAW.out.grown hgr (fun k hk => .inr (HCU1.out.new k hk))
      have HP3 : Hid (Pre p m (latP p id) (fstP p id) 0 ((cs ++ [(⟨Z, oo, .slice x4 s x6⟩ : X)]).map X.p) (n0 + s)) := by
        refine Lib.hid ?_
        rw [List.map_append]
        refine HPR.out.snoc ⟨hs1, by have := HDD.out; omega, n8, by have := HDD.out; omega, ?_, ?_⟩
        · have e : (if cs.map X.p = [] then fstP p id else latP p id) = frm p id n0 := by
            unfold frm
            by_cases hz : n0 = 0
            · rw [if_pos hz, if_pos (List.map_eq_nil_iff.2 (List.eq_nil_of_length_eq_zero (by omega)))]
            · rw [if_neg hz, if_neg (fun h => hz (by have := HPR.out; rw [h] at this; exact (show 0 = n0 from this).symm))]
          rw [e, ← HT.out]; have := HRT.out; omega
        · have e : (if cs.map X.p = [] then fstP p id else latP p id) = frm p id n0 := by
            unfold frm
            by_cases hz : n0 = 0
            · rw [if_pos hz, if_pos (List.map_eq_nil_iff.2 (List.eq_nil_of_length_eq_zero (by omega)))]
            · rw [if_neg hz, if_neg (fun h => hz (by have := HPR.out; rw [h] at this; exact (show 0 = n0 from this).symm))]
          rw [e]; exact HZE.out
      clear hl3 hgr hmv
      go_wp2_with fail
      go_roundw
      case rel => exact ⟨n0 + s, _, by go_num, by omega, by simp; omega, HCU3.out, HP3.out, by omega, HA3.out⟩
      case measure => simp [intOf]; omega
    · obtain rfl : n0 = D := by omega
      have hlt' : ¬ ((n0 : Int) < (n0 : Int)) := by omega
      have HPE : Hid (Pre p m (latP p id) (fstP p id) 0 (cs.map X.p) p.d.length) := by rw [← HDD.out]; exact HPR.out
      go_wp2_with fail
      go_ret
      exact ⟨_, cs, rfl, HCU.out.mono hS1, HPE.out, HA1.out.trans HAW.out⟩
#print axioms lparted_c
end Go.Proofs.YtbnnfbfmomafnaaDoor

namespace Go.Proofs.YtbnnfbfmomafnaaDoor
open Go.ChangeShapes Go.WideShapes Go.ChangeAt Go.RowKit Go.Deep Num
set_option linter.unusedVariables false
set_option linter.unusedSimpArgs false
set_option maxHeartbeats 4000000
set_option maxRecDepth 100000

theorem size28e (wx : World) : (sizeOf (Tryd.prog.elem 32)).run Tryd.prog wx = .ok 46 wx := by kernel_rfl
theorem cells_set {x y : X} {f : Nat} {u : Value} (h : (csP x.p x.o x.d).setIfInBounds f u = csP y.p y.o y.d) : x.cells.set f u = y.cells := by
  have := congrArg Array.toList h
  rw [Array.toList_setIfInBounds] at this
  exact this
theorem flat_set (f : Nat) (x y : X) (u : Value) (hf : f < 46) (e : x.cells.set f u = y.cells) (xs : List X) : ∀ i, (∀ x ∈ xs, Ad x.p) → xs[i]? = some x → (xs.flatMap X.cells).set (i * 46 + f) u = (xs.set i y).flatMap X.cells := by
  induction xs with
  | nil => intro i _ h; simp at h
  | cons z r ih =>
    intro i hA h
    have hl : z.cells.length = 46 := listP_len (hA z (by simp)) _ _
    cases i with
    | zero =>
      simp only [List.getElem?_cons_zero, Option.some.injEq] at h; subst h
      rw [List.flatMap_cons, Nat.zero_mul, Nat.zero_add, List.set_append_left _ _ (by omega), e, List.set_cons_zero, List.flatMap_cons]
    | succ i =>
      have := ih i (fun q hq => hA q (by simp [hq])) (by simpa using h)
      rw [List.flatMap_cons, List.set_append_right _ _ (by omega), hl, show (i + 1) * 46 + f - 46 = i * 46 + f from by omega, this, List.set_cons_succ, List.flatMap_cons]
theorem lst_put {w : World} {g n cap : Nat} {xs : List X} (h : LstP w (.slice (some ⟨g, 0, none⟩) n cap) xs) (hn : xs.length = n) (hA : ∀ x ∈ xs, Ad x.p) {i f : Nat} {x y : X} {u : Value} (hx : xs[i]? = some x) (hf : f < 46) (e : (csP x.p x.o x.d).setIfInBounds f u = csP y.p y.o y.d) :
    LstP (w.setCell ⟨g, i * 46 + f, none⟩ u) (.slice (some ⟨g, 0, none⟩) n cap) (xs.set i y) := by
  subst hn
  have := (World.ownsRow.stored h (i * 46 + f) u).1
  rw [flat_set f x y u hf (cells_set e) xs i hA hx] at this
  unfold LstP
  rw [List.length_set]
  exact this
theorem lst_cell {w : World} {g n cap : Nat} {xs : List X} (h : LstP w (.slice (some ⟨g, 0, none⟩) n cap) xs) (hn : xs.length = n) (hA : ∀ x ∈ xs, Ad x.p) {i f : Nat} {x : X} {u : Value} (hx : xs[i]? = some x) (hu : (csP x.p x.o x.d)[f]? = some u) :
    w.cell? ⟨g, i * 46 + f, none⟩ = some u ∧ w.frozen? ⟨g, i * 46 + f, none⟩ = false := by
  subst hn
  have hl : x.cells.length = 46 := listP_len (hA x (List.mem_of_getElem? hx)) _ _
  have hu' : x.cells[f]? = some u := by rw [← hu]; unfold csP X.cells; rw [List.getElem?_toArray]
  have hf := lt_of_get hu'
  have hi := lt_of_get hx
  refine ⟨?_, World.ownsRow.frozenAt h _⟩
  rw [World.ownsRow.cellAt h _ (by omega)]
  exact flatP_get xs i x hA hx f u hu'
theorem slice_h32 (a : Option Addr) (len cap m : Nat) (hi : Int) (hhi : hi = m) (hm : m ≤ cap) (wx : World) :
    (Instr.sliceAt 32 (.slice a len cap) none (some (.int .i64 hi)) none).run Tryd.prog wx = .ok (.slice a m cap) wx := by
  subst hhi
  rw [run_sliceAt_slice (h := under32), run_slice_h (ht := under32) (h0 := by omega) (h2 := by omega), size28e]
  simp only [Result.andThen, sliced]
  have e : a.map (·.add (0 * 46)) = a := by cases a <;> simp [add_zero]
  rw [show (m : Int).toNat = m from by omega, e, ite_self, Nat.sub_zero, Nat.sub_zero]
theorem lst_take {w : World} {g n cap : Nat} {xs : List X} (h : LstP w (.slice (some ⟨g, 0, none⟩) n cap) xs) (hn : xs.length = n) (hA : ∀ x ∈ xs, Ad x.p) (m : Nat) (hm : m ≤ n) : LstP w (.slice (some ⟨g, 0, none⟩) m cap) (xs.take m) := by
  have hl := flatP_len (xs.take m) (fun x hx => hA x (List.mem_of_mem_take hx))
  have hml : (xs.take m).length = m := by rw [List.length_take]; omega
  rcases h.2 with ⟨h1, h2⟩ | ⟨g', c, cur, h1, h2, h3, h4, h5, h6, h7⟩
  · simp at h1
  · simp only [Value.slice.injEq, Option.some.injEq, Addr.mk.injEq, and_true] at h1
    obtain ⟨rfl, -, rfl⟩ := h1
    refine ⟨hl, .inr ⟨g, cap, cur, by rw [hml], h2, h3, by rw [hml]; omega, h5, h6, ?_⟩⟩
    rw [hml]
    have e : (xs.take m).flatMap X.cells = (xs.flatMap X.cells).take (m * 46) := by
      have h8 : xs.flatMap X.cells = (xs.take m).flatMap X.cells ++ (xs.drop m).flatMap X.cells := by rw [← List.flatMap_append, List.take_append_drop]
      have h9 : ((xs.take m).flatMap X.cells).length = m * 46 := by rw [hl, hml]
      conv => rhs; rw [h8]
      exact (List.take_left' h9).symm
    rw [e, ← h7, List.take_take, Nat.min_eq_left (by rw [hn] ; omega)]
theorem owns_cells {e size n cap g : Nat} : ∀ (vs : List Value) (w : World) (o : Nat) (cs : List Value), w.ownsRow 0 e size (.slice (some ⟨g, 0, none⟩) n cap) n cs → o + vs.length ≤ cs.length → (w.setCells g o vs).ownsRow 0 e size (.slice (some ⟨g, 0, none⟩) n cap) n (cs.take o ++ (vs ++ cs.drop (o + vs.length)))
  | [], w, o, cs, h, hl => by
    have e : w.setCells g o [] = w := rfl
    rw [e]; simpa using h
  | v :: vs, w, o, cs, h, hl => by
    have h1 := (World.ownsRow.stored h o v).1
    have h2 := owns_cells vs (w.setCell ⟨g, o, none⟩ v) (o + 1) (cs.set o v) h1 (by rw [List.length_set]; simp only [List.length_cons] at hl; omega)
    have e1 : (cs.set o v).take (o + 1) = cs.take o ++ [v] := by
      simp only [List.length_cons] at hl
      rw [List.take_succ_eq_append_getElem (by rw [List.length_set]; omega), List.getElem_set_self, List.take_set_of_le (Nat.le_refl _)]
    have e2 : (cs.set o v).drop (o + 1 + vs.length) = cs.drop (o + (v :: vs).length) := by
      rw [List.drop_set_of_lt (by omega)]
      congr 1
      simp only [List.length_cons]; omega
    rw [e1, e2] at h2
    have e3 : w.setCells g o (v :: vs) = (w.setCell ⟨g, o, none⟩ v).setCells g (o + 1) vs := rfl
    rw [e3]
    simpa using h2
theorem lst_putall {w : World} {g n cap : Nat} {xs : List X} (h : LstP w (.slice (some ⟨g, 0, none⟩) n cap) xs) (hn : xs.length = n) (hA : ∀ x ∈ xs, Ad x.p) {k : Nat} {y : X} (hk : k < n) (hy : Ad y.p) : LstP (w.setCells g (k * 46) y.cells) (.slice (some ⟨g, 0, none⟩) n cap) (xs.set k y) := by
  subst hn
  have hyl : y.cells.length = 46 := listP_len hy _ _
  have hfl := flatP_len xs hA
  have := owns_cells y.cells w (k * 46) (xs.flatMap X.cells) h (by rw [hyl, hfl]; omega)
  unfold LstP
  rw [List.length_set]
  have e : (xs.set k y).flatMap X.cells = (xs.flatMap X.cells).take (k * 46) ++ (y.cells ++ (xs.flatMap X.cells).drop (k * 46 + y.cells.length)) := by
    have hs : xs.set k y = xs.take k ++ y :: xs.drop (k + 1) := by rw [List.set_eq_take_append_cons_drop, if_pos hk]
    have hx : xs.flatMap X.cells = (xs.take k).flatMap X.cells ++ (xs.drop k).flatMap X.cells := by rw [← List.flatMap_append, List.take_append_drop]
    have hx2 : xs.flatMap X.cells = (xs.take (k + 1)).flatMap X.cells ++ (xs.drop (k + 1)).flatMap X.cells := by rw [← List.flatMap_append, List.take_append_drop]
    have l1 : ((xs.take k).flatMap X.cells).length = k * 46 := by rw [flatP_len _ (fun x hx => hA x (List.mem_of_mem_take hx)), List.length_take]; congr 1; omega
    have l2 : ((xs.take (k + 1)).flatMap X.cells).length = k * 46 + y.cells.length := by rw [flatP_len _ (fun x hx => hA x (List.mem_of_mem_take hx)), List.length_take, hyl]; rw [Nat.min_eq_left (by omega)]; omega
    have t1 : (xs.flatMap X.cells).take (k * 46) = (xs.take k).flatMap X.cells := by
      conv => lhs; rw [hx]
      exact List.take_left' l1
    have t2 : (xs.flatMap X.cells).drop (k * 46 + y.cells.length) = (xs.drop (k + 1)).flatMap X.cells := by
      conv => lhs; rw [hx2]
      exact List.drop_left' l2
    rw [hs, t1, t2, List.flatMap_append, List.flatMap_cons]
  rw [e]
  exact this
theorem slice_l32 (a A : Option Addr) (len cap k : Nat) (lo : Int) (hA : A = if cap = k then a else a.map (·.add (k * 46))) (hlo : lo = k) (hm : k ≤ len) (wx : World) :
    (Instr.sliceAt 32 (.slice a len cap) (some (.int .i64 lo)) none none).run Tryd.prog wx = .ok (.slice A (len - k) (cap - k)) wx := by
  subst hlo; subst hA
  rw [run_sliceAt_slice (h := under32), run_slice_l (ht := under32) (h0 := by omega) (h1 := by omega), size28e]
  simp only [Result.andThen, sliced]
  rw [show (k : Int).toNat = k from by omega]
/-- One changed at i: it can be read, and so can the others. -/
theorem pks_set {w : World} {gm n c : Nat} {ks : List X} {i : Nat} {y : X} (hl : LstP w (.slice (some ⟨gm, 0, none⟩) n c) (ks.set i y)) (hn : ks.length ≤ 100000) (hoth : ∀ j z, j ≠ i → ks[j]? = some z → z.ok w) (hy : y.ok w) : Pks w (some ⟨gm, 0, none⟩) (ks.set i y) := by
  have hok : ∀ z ∈ ks.set i y, z.ok w := fun z hz => by
    obtain ⟨j, hj⟩ := List.mem_iff_getElem?.1 hz
    by_cases h : j = i
    · subst h
      have hjl := lt_of_get hj
      rw [List.length_set] at hjl
      rw [List.getElem?_set_self hjl] at hj
      simp at hj; subst hj; exact hy
    · rw [List.getElem?_set_ne (fun e => h e.symm)] at hj
      exact hoth j z h hj
  obtain ⟨a, cap, e, -, -, hp, -⟩ := hl.pks (by rw [List.length_set]; omega) hok
  simp only [Value.slice.injEq] at e
  rw [e.1]; exact hp
theorem Cuts.other {w w' : World} {B : Nat} {v : Value} {ks : List X} {S : List Nat} (h : Cuts w B v ks) {i : Nat} {x : X} (hx : ks[i]? = some x) (hw : Away S w w') (hS : ∀ k ∈ S, x.o.ownBlock = some k ∨ x.d.ownBlock = some k ∨ v.ownBlock = some k) : ∀ j z, j ≠ i → ks[j]? = some z → z.ok w' := fun j z hji hz => by
  have hzm := List.mem_of_getElem? hz
  have hxm := List.mem_of_getElem? hx
  refine ((h.each z hzm).2.away hw (fun k hk hc => ?_)).pkt (h.each z hzm).1
  have hap : ∀ (a b : Nat) (p q : X), a < b → ks[a]? = some p → ks[b]? = some q → ∀ k, p.o.ownBlock = some k ∨ p.d.ownBlock = some k → q.o.ownBlock ≠ some k ∧ q.d.ownBlock ≠ some k := fun a b p q hab ha hb => by
    obtain ⟨ha1, ha2⟩ := List.getElem?_eq_some_iff.1 ha
    obtain ⟨hb1, hb2⟩ := List.getElem?_eq_some_iff.1 hb
    have := List.pairwise_iff_getElem.1 h.apart a b ha1 hb1 hab
    rw [ha2, hb2] at this
    exact this
  have hxz : x.o.ownBlock = some k ∨ x.d.ownBlock = some k → False := fun hc => by
    rcases Nat.lt_or_ge i j with h1 | h1
    · have := hap i j x z h1 hx hz k hc
      rcases hk with hk | hk
      · exact this.1 hk
      · exact this.2 hk
    · have := hap j i z x (by omega) hz hx k hk
      rcases hc with hc | hc
      · exact this.1 hc
      · exact this.2 hc
  rcases hS k hc with h1 | h1 | h1
  · exact hxz (.inl h1)
  · exact hxz (.inr h1)
  · exact h.far z hzm k hk h1
/-- A field of one packet. -/
theorem Cuts.fld {w : World} {B gm n c : Nat} {ks : List X} (h : Cuts w B (.slice (some ⟨gm, 0, none⟩) n c) ks) (hn : ks.length = n) (hn2 : n ≤ 100000) {i f : Nat} {x : X} {u : Value} {q : Pk} (hx : ks[i]? = some x) (hf : f < 46) (e : (csP x.p x.o x.d).setIfInBounds f u = csP q x.o x.d) (hq : Wf q) (ho : q.o = x.p.o) (hd : q.d = x.p.d) :
    Pks (w.setCell ⟨gm, i * 46 + f, none⟩ u) (some ⟨gm, 0, none⟩) (ks.set i ⟨q, x.o, x.d⟩) := by
  have hxm := List.mem_of_getElem? hx
  have haw := away_put (w := w) (g := gm) (i * 46 + f) u
  refine pks_set (lst_put h.lst hn (fun z hz => (h.each z hz).1.ad) (y := ⟨q, x.o, x.d⟩) hx hf e) (by omega) (h.other hx haw (fun k hk => .inr (.inr (by simp at hk; rw [hk]; rfl)))) ?_
  have hm := (h.each x hxm).2.away haw (fun k hk hc => by simp at hc; subst hc; exact h.far x hxm _ hk rfl)
  exact ⟨hq, by show Sl _ x.o q.o; rw [ho]; exact hm.o.sl (h.each x hxm).1.o (h.each x hxm).1.ol, by show Sl _ x.d q.d; rw [hd]; exact hm.d.sl (h.each x hxm).1.d (h.each x hxm).1.dn⟩
/-- Its data by one byte. -/
theorem Cuts.byte {w : World} {B gm n c gd dn dc : Nat} {ks : List X} (h : Cuts w B (.slice (some ⟨gm, 0, none⟩) n c) ks) (hn : ks.length = n) (hn2 : n ≤ 100000) {i : Nat} {x : X} {z : Int} (hx : ks[i]? = some x) (hd : x.d = .slice (some ⟨gd, 0, none⟩) dn dc) (hdn : x.p.d.length = dn) (hz : 0 ≤ z ∧ z ≤ 255) :
    Pks (w.setCell ⟨gd, 0, none⟩ (.int .u8 z)) (some ⟨gm, 0, none⟩) (ks.set i ⟨{ x.p with d := x.p.d.set 0 z }, x.o, x.d⟩) := by
  have hxm := List.mem_of_getElem? hx
  have hw := (h.each x hxm).1
  have hmi := (h.each x hxm).2
  have haw := away_put (w := w) (g := gd) 0 (.int .u8 z)
  have hb : x.d.ownBlock = some gd := by rw [hd]; rfl
  have hfar := h.far x hxm gd (.inr hb)
  have hby : Bytes (x.p.d.set 0 z) := fun b hb => by
    rcases List.mem_or_eq_of_mem_set hb with h1 | h1
    · exact hw.d b h1
    · rw [h1]; exact hz
  refine pks_set (n := n) (c := c) ?_ (by omega) (h.other hx haw (fun k hk => .inr (.inl (by simp at hk; rw [hk]; exact hb)))) ?_
  · have h1 := h.lst.away haw (fun k hk hc => by simp at hc; subst hc; exact hfar hk)
    have e : (ks.set i ⟨{ x.p with d := x.p.d.set 0 z }, x.o, x.d⟩).flatMap X.cells = ks.flatMap X.cells := by
      rw [List.flatMap_def, List.flatMap_def, List.map_set]
      congr 1
      have hil := lt_of_get hx
      refine List.ext_getElem? fun j => ?_
      by_cases hj : j = i
      · subst hj
        rw [List.getElem?_set_self (by simpa using hil), List.getElem?_map, hx]; rfl
      · rw [List.getElem?_set_ne (fun e => hj e.symm)]
    unfold LstP
    rw [List.length_set, e]; exact h1
  · refine ⟨⟨hw.v, hw.tos, hw.flow, hw.sv, hw.sl, hw.sb, hw.dv, hw.dl, hw.db, hw.proto, hw.ttl, hw.id0, hw.id1, hw.off, hw.o, hw.ol, hby, by show (x.p.d.set 0 z).length ≤ _; rw [List.length_set]; exact hw.dn⟩, ?_, ?_⟩
    · exact (hmi.o.away haw (fun k hk hc => by simp at hc; subst hc; exact hmi.ap _ hk hb)).sl hw.o hw.ol
    · have h1 := hmi.d
      rw [hd] at h1
      have := Owns.set h1 hdn 0 z
      show Sl _ x.d (x.p.d.set 0 z)
      rw [hd]
      exact this.sl hby (by rw [List.length_set]; exact hw.dn)
/-- Its data cut short. -/
theorem Cuts.short {w : World} {B gm n c dn dc : Nat} {da : Option Addr} {ks : List X} (h : Cuts w B (.slice (some ⟨gm, 0, none⟩) n c) ks) (hn : ks.length = n) (hn2 : n ≤ 100000) {i m : Nat} {x : X} (hx : ks[i]? = some x) (hd : x.d = .slice da dn dc) (hdn : x.p.d.length = dn) (hm : m ≤ dn) :
    Pks (w.setCell ⟨gm, i * 46 + 45, none⟩ (.slice da m dc)) (some ⟨gm, 0, none⟩) (ks.set i ⟨{ x.p with d := x.p.d.take m }, x.o, .slice da m dc⟩) := by
  have hxm := List.mem_of_getElem? hx
  have hw := (h.each x hxm).1
  have haw := away_put (w := w) (g := gm) (i * 46 + 45) (.slice da m dc)
  refine pks_set (lst_put h.lst hn (fun z hz => (h.each z hz).1.ad) (y := ⟨{ x.p with d := x.p.d.take m }, x.o, .slice da m dc⟩) hx (by omega) ((csP_set hw.ad _ _).2.2.2.2.2.2.2.2.2.2.2.2.2 _ _)) (by omega) (h.other hx haw (fun k hk => .inr (.inr (by simp at hk; rw [hk]; rfl)))) ?_
  have hmi := (h.each x hxm).2.away haw (fun k hk hc => by simp at hc; subst hc; exact h.far x hxm _ hk rfl)
  have hsd := hmi.d.sl hw.d hw.dn
  rw [hd] at hsd
  have h2 := hsd.of
  refine ⟨⟨hw.v, hw.tos, hw.flow, hw.sv, hw.sl, hw.sb, hw.dv, hw.dl, hw.db, hw.proto, hw.ttl, hw.id0, hw.id1, hw.off, hw.o, hw.ol, hw.d.take m, by show (x.p.d.take m).length ≤ _; have := hw.dn; rw [List.length_take]; omega⟩, hmi.o.sl hw.o hw.ol, ?_⟩
  exact ⟨da, dc, by show _ = Value.slice da (x.p.d.take m).length dc; rw [List.length_take, Nat.min_eq_left (by omega)], by show (x.p.d.take m).length ≤ _; rw [List.length_take]; omega, h2.2.2.1, h2.2.2.2.head m⟩
/-- Its options lengthened. -/
theorem Cuts.opts {w w' : World} {B gm n c : Nat} {v' : Value} {ks : List X} (h : Cuts w B (.slice (some ⟨gm, 0, none⟩) n c) ks) (hn : ks.length = n) (hn2 : n ≤ 100000) {i : Nat} {x : X} {l : List Int} (hx : ks[i]? = some x) (hB : B ≤ w.heap.size) (hgr : w.grownBy w' x.o.ownBlock) (hmv : Moved w x.o v') (hown : Owns w' v' l) (hl : Bytes l) (hll : l.length ≤ 140737488355328) :
    Pks (w'.setCell ⟨gm, i * 46 + 44, none⟩ v') (some ⟨gm, 0, none⟩) (ks.set i ⟨{ x.p with o := l }, v', x.d⟩) ∧ Away (gm :: x.o.ownBlock.toList) w (w'.setCell ⟨gm, i * 46 + 44, none⟩ v') := by
  have hxm := List.mem_of_getElem? hx
  have hw := (h.each x hxm).1
  have hmi := (h.each x hxm).2
  have hga : gm < w.heap.size := h.lst.lt gm rfl
  have haw1 : Away x.o.ownBlock.toList w w' := (Away.refl _ w).grown hgr (fun k hk => .inl (by simp [hk]))
  have haw2 := away_put (w := w') (g := gm) (i * 46 + 44) v'
  have hl1 := h.lst.away haw1 (fun k hk hc => by simp [Value.ownBlock] at hk hc; subst hk; exact h.far x hxm _ (.inl hc) rfl)
  have haw : Away (gm :: x.o.ownBlock.toList) w (w'.setCell ⟨gm, i * 46 + 44, none⟩ v') := (haw1.mono (fun k hk => List.mem_cons_of_mem _ hk)).next haw2 (fun k hk => .inl (by simp at hk; simp [hk]))
  refine ⟨pks_set (lst_put hl1 hn (fun z hz => (h.each z hz).1.ad) (y := ⟨{ x.p with o := l }, v', x.d⟩) hx (by omega) ((csP_set hw.ad _ _).2.2.2.2.2.2.2.2.2.2.2.2.1 _ _)) (by omega) (h.other hx haw (fun k hk => ?_)) ⟨⟨hw.v, hw.tos, hw.flow, hw.sv, hw.sl, hw.sb, hw.dv, hw.dl, hw.db, hw.proto, hw.ttl, hw.id0, hw.id1, hw.off, hl, hll, hw.d, hw.dn⟩, ?_, ?_⟩, haw⟩
  · rcases List.mem_cons.1 hk with rfl | hk
    · exact .inr (.inr rfl)
    · exact .inl (by simpa using hk)
  · refine (hown.away haw2 (fun k hk hc => ?_)).sl hl hll
    simp at hc; subst hc
    rcases hmv _ hk with h1 | h1
    · exact h.far x hxm _ (.inl h1) rfl
    · omega
  · refine (hmi.d.away haw (fun k hk hc => ?_)).sl hw.d hw.dn
    rcases List.mem_cons.1 hc with rfl | hc
    · exact h.far x hxm _ (.inr hk) rfl
    · exact hmi.ap k (by simpa using hc) hk
/-- Two changed about. -/
theorem Cuts.swap {w : World} {B gm n c : Nat} {ks : List X} (h : Cuts w B (.slice (some ⟨gm, 0, none⟩) n c) ks) (hn : ks.length = n) (hn2 : n ≤ 100000) {i j : Nat} {x y : X} (hi : i < n) (hj : j < n) (hx : x ∈ ks) (hy : y ∈ ks) :
    Pks ((w.setCells gm (i * 46) y.cells).setCells gm (j * 46) x.cells) (some ⟨gm, 0, none⟩) ((ks.set i y).set j x) := by
  have hA : ∀ z ∈ ks, Ad z.p := fun z hz => (h.each z hz).1.ad
  have hm : ∀ z ∈ (ks.set i y).set j x, z ∈ ks := fun z hz => by
    rcases List.mem_or_eq_of_mem_set hz with h1 | h1
    · rcases List.mem_or_eq_of_mem_set h1 with h2 | h2
      · exact h2
      · rw [h2]; exact hy
    · rw [h1]; exact hx
  have hA1 : ∀ z ∈ ks.set i y, Ad z.p := fun z hz => by
    rcases List.mem_or_eq_of_mem_set hz with h2 | h2
    · exact hA z h2
    · rw [h2]; exact hA y hy
  have l1 := lst_putall h.lst hn hA (k := i) (y := y) hi (hA y hy)
  have l2 := lst_putall l1 (by rw [List.length_set]; exact hn) hA1 (k := j) (y := x) hj (hA x hx)
  have haw : Away [gm] w ((w.setCells gm (i * 46) y.cells).setCells gm (j * 46) x.cells) := (away_cells y.cells w gm (i * 46)).trans (away_cells x.cells _ gm (j * 46))
  obtain ⟨a, cap, e, -, -, hp, -⟩ := l2.pks (by rw [List.length_set, List.length_set]; omega) (fun z hz => ((h.each z (hm z hz)).2.away haw (fun k hk hc => by simp at hc; subst hc; exact h.far z (hm z hz) _ hk rfl)).pkt (h.each z (hm z hz)).1)
  simp only [Value.slice.injEq] at e
  rw [e.1]; exact hp
theorem xorI (n k : Int) : i64ok (bits .xor .i64 n k) := by
  have e : bits .xor .i64 n k = IntKind.i64.wrap ((BitVec.ofInt 64 n ^^^ BitVec.ofInt 64 k).toNat : Nat) := rfl
  rw [e, IntKind.wrap_i64]; unfold i64ok; omega
theorem xor_ne (n k : Int) (hn : i64ok n) (hk : BitVec.ofInt 64 k ≠ 0#64) : bits .xor .i64 n k ≠ n := fun h => by
  apply hk
  have e : bits .xor .i64 n k = IntKind.i64.wrap ((BitVec.ofInt 64 n ^^^ BitVec.ofInt 64 k).toNat : Nat) := rfl
  have h2 : BitVec.ofInt 64 (bits .xor .i64 n k) = BitVec.ofInt 64 n ^^^ BitVec.ofInt 64 k := by
    rw [e, IntKind.wrap_i64]
    apply BitVec.eq_of_toInt_eq
    rw [BitVec.toInt_ofInt]
    generalize BitVec.ofInt 64 n ^^^ BitVec.ofInt 64 k = b
    rw [BitVec.toInt_eq_toNat_bmod]
    have := b.isLt
    simp only [Int.bmod]
    omega
  rw [h] at h2
  have h3 : BitVec.ofInt 64 n ^^^ (BitVec.ofInt 64 n ^^^ BitVec.ofInt 64 k) = BitVec.ofInt 64 n ^^^ BitVec.ofInt 64 n := by rw [← h2]
  rw [← BitVec.xor_assoc, BitVec.xor_self, BitVec.zero_xor] at h3
  exact h3
theorem xor8_ne (n : Int) (h0 : 0 ≤ n) (h1 : n ≤ 255) : bits .xor .u8 n 1 ≠ n ∧ 0 ≤ bits .xor .u8 n 1 ∧ bits .xor .u8 n 1 ≤ 255 := by
  obtain ⟨k, rfl⟩ : ∃ k : Nat, n = k := ⟨n.toNat, by omega⟩
  have hk : k < 256 := by omega
  exact (by decide +kernel : ∀ k : Fin 256, bits .xor .u8 ((k.val : Nat) : Int) 1 ≠ ((k.val : Nat) : Int) ∧ 0 ≤ bits .xor .u8 ((k.val : Nat) : Int) 1 ∧ bits .xor .u8 ((k.val : Nat) : Int) 1 ≤ 255) ⟨k, hk⟩
theorem xor32 {n : Int} (h0 : 0 ≤ n) (h1 : n ≤ 4294967295) : 0 ≤ bits .xor .u32 n 1 ∧ bits .xor .u32 n 1 ≤ 4294967295 ∧ bits .xor .u32 n 1 ≠ n := by
  rw [u32_xor n 1 h0 (by omega) (by omega) (by omega)]
  obtain ⟨x, rfl⟩ := Int.eq_ofNat_of_zero_le h0
  have hx : x ^^^ 1 < 2 ^ 32 := Nat.xor_lt_two_pow (by omega) (by omega)
  refine ⟨by omega, by simp only [Int.toNat_natCast]; have e : (1 : Int).toNat = 1 := rfl; rw [e]; omega, fun h => ?_⟩
  have e : (1 : Int).toNat = 1 := rfl
  rw [Int.toNat_natCast, e] at h
  have h2 : x ^^^ 1 = x := by exact_mod_cast h
  have h3 := congrArg (x ^^^ ·) h2
  simp only [← Nat.xor_assoc, Nat.xor_self, Nat.zero_xor] at h3
  omega
end Go.Proofs.YtbnnfbfmomafnaaDoor
