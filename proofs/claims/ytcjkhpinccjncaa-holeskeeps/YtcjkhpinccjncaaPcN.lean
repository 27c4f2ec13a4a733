/-
  Pieces, as plain data: what is there behind them, in whatever order.
-/
import Derived.Test.YtcjkhpinccjncaaRkit
namespace Go.Proofs.Ytcjkhpinccjncaa
set_option linter.unusedVariables false
set_option linter.unusedSimpArgs false

def TL (L : List Pc) (n : Int) : Bool := L.any (fun p => inS (p.o, p.o + p.n) n)
theorem TL_snoc (L : List Pc) (p : Pc) (n : Int) : TL (L ++ [p]) n = (TL L n || inS (p.o, p.o + p.n) n) := by simp [TL]
theorem TL_perm {L M : List Pc} (h : L.Perm M) (n : Int) : TL L n = TL M n := by
  rw [Bool.eq_iff_iff]
  simp only [TL, List.any_eq_true]
  exact ⟨fun ⟨x, hx, h1⟩ => ⟨x, h.mem_iff.1 hx, h1⟩, fun ⟨x, hx, h1⟩ => ⟨x, h.mem_iff.2 hx, h1⟩⟩
/-- A piece that agrees with an end (-1: none). -/
structure Fit (e : Int) (p : Pc) : Prop where
  arg : argOk p.o p.n = true
  last : p.m = false → p.o + p.n = e
  below : e ≠ -1 → p.o + p.n ≤ e
  more : e = -1 → p.m = true
/-- The pieces L were taken: what the list knows. -/
structure Put (L : List Pc) (m : List Sp) (e : Int) : Prop where
  ho : Ho (TL L) m e
  fit : ∀ p ∈ L, Fit e p
  known : e ≠ -1 → ∃ p ∈ L, p.m = false
theorem Put.new : Put [] [(0, 65535)] (-1) := ⟨ho_new, by simp, by simp⟩
theorem ho_congr {T U : Int → Bool} {m : List Sp} {e : Int} (h : Ho T m e) (hu : ∀ n, T n = U n) : Ho U m e :=
  ⟨⟨h.of.right, fun n => by rw [h.of.has, hu]⟩, h.en, fun n hn => h.there n (by rw [hu]; exact hn)⟩
theorem Put.step {L : List Pc} {m : List Sp} {e : Int} {p : Pc} (h : Put L m e) (hok : putOk m e p.o p.n p.m = true) : Put (L ++ [p]) (putM m p.o p.n p.m) (putE e p.o p.n p.m) := by
  have hp := put_ho h.ho hok
  have hok' := hok
  unfold putOk at hok'
  rw [Bool.and_eq_true] at hok'
  obtain ⟨ha, he⟩ := hok'
  have ha' := ha
  rw [arg_iff] at ha'
  have h2 := (end_iff h.ho (by omega) (by omega) p.m).1 he
  refine ⟨ho_congr hp (fun n => (TL_snoc L p n).symm), fun q hq => ?_, fun hne => ?_⟩
  · cases hm : p.m with
    | true =>
      rw [hm, if_pos rfl] at h2
      have e1 : putE e p.o p.n true = e := rfl
      rw [e1]
      rw [List.mem_append, List.mem_singleton] at hq
      rcases hq with hq | rfl
      · exact h.fit q hq
      · exact ⟨ha, fun hf => by rw [hm] at hf; simp at hf, fun h3 => by omega, fun _ => hm⟩
    | false =>
      rw [hm, if_neg (by simp)] at h2
      have e1 : putE e p.o p.n false = p.o + p.n := rfl
      rw [e1]
      rw [List.mem_append, List.mem_singleton] at hq
      rcases hq with hq | rfl
      · have hf := h.fit q hq
        have hqa := hf.arg
        rw [arg_iff] at hqa
        rcases h2 with ⟨h3, h4⟩ | ⟨h3, h4⟩
        · refine ⟨hf.arg, fun hc => ?_, fun _ => ?_, fun hc => by omega⟩
          · rw [hf.more h3] at hc; simp at hc
          · rcases Int.lt_or_le (p.o + p.n) (q.o + q.n) with h5 | h5
            · have := h4 (q.o + q.n - 1) (by omega)
              have h6 : TL L (q.o + q.n - 1) = true := by
                simp only [TL, List.any_eq_true]
                exact ⟨q, hq, by rw [inS_iff]; simp only; omega⟩
              rw [h6] at this; simp at this
            · exact h5
        · rw [h4]
          exact hf
      · exact ⟨ha, fun _ => rfl, fun _ => Int.le_refl _, fun hc => by omega⟩
  · cases hm : p.m with
    | true =>
      rw [hm] at hne
      obtain ⟨q, hq, h3⟩ := h.known hne
      exact ⟨q, by simp [hq], h3⟩
    | false => exact ⟨p, by simp, hm⟩
/-- Any piece that fits is taken. -/
theorem Put.takes {M : List Pc} {m : List Sp} {eb e : Int} {p : Pc} (h : Put M m eb) (hM : ∀ q ∈ M, Fit e q) (hp : Fit e p) : putOk m eb p.o p.n p.m = true := by
  have ha := hp.arg
  rw [arg_iff] at ha
  have hbe : eb ≠ -1 → eb = e := fun hne => by
    obtain ⟨q, hq, h3⟩ := h.known hne
    have h4 := (hM q hq).last h3
    have h5 := (h.fit q hq).last h3
    omega
  unfold putOk
  rw [Bool.and_eq_true]
  refine ⟨hp.arg, (end_iff h.ho (by omega) (by omega) p.m).2 ?_⟩
  cases hm : p.m with
  | true =>
    rw [if_pos rfl]
    rcases Int.decEq eb (-1) with h1 | h1
    · right
      have h2 := hbe h1
      have := hp.below (by omega)
      omega
    · exact .inl h1
  | false =>
    rw [if_neg (by simp)]
    have h2 := hp.last hm
    rcases Int.decEq eb (-1) with h1 | h1
    · exact .inr ⟨h1, by have := hbe h1; omega⟩
    · refine .inl ⟨h1, fun n hn => ?_⟩
      rw [Bool.eq_false_iff]
      intro hc
      simp only [TL, List.any_eq_true, inS_iff] at hc
      obtain ⟨q, hq, h3, h4⟩ := hc
      have := (hM q hq).below (by omega)
      omega
/-- The same pieces in two orders: the same list. -/
theorem Put.uniq {L M : List Pc} {m n : List Sp} {e f : Int} (h : Put L m e) (k : Put M n f) (hp : L.Perm M) : m = n ∧ e = f := by
  have he : e = f := by
    rcases Int.decEq e (-1) with h1 | h1
    · obtain ⟨q, hq, h2⟩ := h.known h1
      have h3 := (h.fit q hq).last h2
      have h4 := (k.fit q (hp.mem_iff.1 hq)).last h2
      omega
    · rcases Int.decEq f (-1) with h2 | h2
      · obtain ⟨q, hq, h3⟩ := k.known h2
        have := (h.fit q (hp.mem_iff.2 hq)).more h1
        rw [h3] at this; simp at this
      · omega
  subst he
  exact ⟨Of.uniq h.ho.of (⟨k.ho.of.right, fun i => by rw [k.ho.of.has, TL_perm hp]⟩), rfl⟩
/-- rest: n brought to 0 .. hi. -/
def restP (n hi : Int) : Int := if n.tmod (hi + 1) < 0 then n.tmod (hi + 1) + hi + 1 else n.tmod (hi + 1)
theorem rest_in {n hi : Int} (h : 0 ≤ hi) : 0 ≤ restP n hi ∧ restP n hi ≤ hi := by
  unfold restP
  have h1 : n.tmod (hi + 1) < hi + 1 := Int.tmod_lt_of_pos n (by omega)
  have h2 : -(hi + 1) < n.tmod (hi + 1) := Int.lt_tmod_of_pos n (by omega)
  split <;> omega
/-- Without the k-th. -/
def dropK {α : Type} (l : List α) (k : Nat) : List α := l.take k ++ l.drop (k + 1)
theorem dropK_perm {α : Type} {l : List α} {k : Nat} {p : α} (h : l[k]? = some p) : (p :: dropK l k).Perm l := by
  have hk : k < l.length := by
    rcases Nat.lt_or_ge k l.length with h1 | h1
    · exact h1
    · rw [List.getElem?_eq_none h1] at h; simp at h
  rw [List.getElem?_eq_getElem hk] at h
  simp only [Option.some.injEq] at h
  have e : l = l.take k ++ p :: l.drop (k + 1) := by
    conv => lhs; rw [← List.take_append_drop k l, List.drop_eq_getElem_cons hk, h]
  unfold dropK
  conv => rhs; rw [e]
  exact List.perm_middle.symm
theorem dropK_len {α : Type} {l : List α} {k : Nat} (h : k < l.length) : (dropK l k).length = l.length - 1 := by
  unfold dropK; simp; omega
#print axioms Put.uniq
end Go.Proofs.Ytcjkhpinccjncaa
