/-
  For TableOldest: plain data.
-/
import Derived.Test.YtkccpidgeecemaaDoorKt
namespace Go.Proofs.YtkccpidgeecemaaDoor
open Go.ChangeShapes Go.WideShapes Go.ChangeAt Go.RowKit
open S6 (wp_region_cls quiet_val quiet_call quiet_ld ld3 ld4 ld5 ld25 ld26 load28_run load24m_run)
set_option linter.unusedVariables false
set_option linter.unusedSimpArgs false
set_option maxRecDepth 100000

def oP (i : Nat) : Pk := pieceP (dataP (i : Int) 16) 0 8
def oS (i : Nat) : Es := (putS (newS (oP i) 0) (oP i)).2
def okI (i : Nat) : Bool := decide ((putS (newS (oP i) 0) (oP i)).1 = 5) && decide ((oS i).h = 8) && decide (holesN (oS i) = 1) && rgt2 (oP i) && !isWhP (oP i)
theorem o_all : (List.range 200).all okI = true := by kernel_rfl
theorem o_ok {i : Nat} (h : i < 200) : (putS (newS (oP i) 0) (oP i)).1 = 5 ∧ (oS i).h = 8 ∧ holesN (oS i) = 1 ∧ rgt2 (oP i) = true ∧ isWhP (oP i) = false := by
  have h1 := List.all_eq_true.1 o_all i (List.mem_range.2 h)
  simp only [okI, Bool.and_eq_true, decide_eq_true_eq, Bool.not_eq_true'] at h1
  obtain ⟨⟨⟨⟨h1, h2⟩, h3⟩, h4⟩, h5⟩ := h1
  exact ⟨h1, h2, h3, h4, h5⟩
theorem oS_kt (i : Nat) : (oS i).k = oP i ∧ (oS i).tb = 0 := put_kt _ _
theorem oP_ky {i j : Nat} (h : i ≠ j) : kyB (oP i) (oP j) = false := by
  rw [Bool.eq_false_iff]
  intro hk
  simp only [kyB, Bool.and_eq_true, decide_eq_true_eq] at hk
  obtain ⟨-, -, -, -, h1⟩ := hk
  have h2 : (i : Int) = (j : Int) := h1
  omega
theorem oP_wf {i : Nat} (h : i < 200) : Wf (oP i) := piece_wf (data_wf _ (by omega) (by omega) 16 (by omega)) (by omega)
theorem sum8 : ∀ (cs : List Cel), (∀ c ∈ cs, c.s.h = 8) → sumC cs = 8 * (cs.length : Int)
  | [], _ => rfl
  | c :: r, h => by
    have h1 := sum8 r (fun d hd => h d (List.mem_cons_of_mem _ hd))
    have h2 := h c (List.mem_cons_self ..)
    simp only [sumC, List.map_cons, List.sum_cons, List.length_cons] at h1 ⊢
    rw [h1, h2]
    omega
/-- The entries of the numbers m, m + 1 .. -/
def Run (cs : List Cel) (m : Nat) : Prop := ∀ (j : Nat) (c : Cel), cs[j]? = some c → c.s = oS (m + j)
theorem Run.h {cs : List Cel} {m : Nat} (h : Run cs m) (hl : m + cs.length ≤ 200) : ∀ c ∈ cs, c.s.h = 8 := fun c hc => by
  obtain ⟨j, hj⟩ := List.mem_iff_getElem?.1 hc
  have h1 := (List.getElem?_eq_some_iff.1 hj).1
  rw [h j c hj]
  exact (o_ok (by omega)).2.1
theorem Run.keys {cs : List Cel} {m : Nat} (h : Run cs m) (j : Nat) (x : Pk) (hx : (cs.map (·.s.k))[j]? = some x) : x = oP (m + j) := by
  rw [List.getElem?_map] at hx
  cases hc : cs[j]? with
  | none => rw [hc] at hx; simp at hx
  | some c =>
    rw [hc] at hx
    simp only [Option.map_some, Option.some.injEq] at hx
    rw [← hx, h j c hc]
    exact (oS_kt _).1
theorem o_res {q : Qo} {cs cs' : List Cel} {n : Int} {wh ks : List Pk} {k m st : Nat} (hk : k < 200) (hm : m + cs.length = k) (hc : Run cs m) (hq : q.h = 9) (hst : ∀ L : Nat, (q.e < (L : Int) ∨ q.b < 8 * (L : Int)) ↔ st < L) (hl : cs.length = min st k)
    (h : Res q 0 cs (oP k) n wh ks cs') : n = 5 ∧ wh = [] ∧ (ks.length ≤ 1 ∧ ∃ m', (List.range m).map oP ++ ks = (List.range m').map oP ∧ m' + cs'.length = k + 1 ∧ cs'.length = min st (k + 1) ∧ Run cs' m') := by
  obtain ⟨o1, o2, o3, o4, o5⟩ := o_ok hk
  rcases h with ⟨h1, -⟩ | ⟨-, cs1, i, c, fp1, fp2, h | ⟨-, g, fp, rfl, rfl, rfl⟩, ht⟩
  · rw [o5] at h1; simp at h1
  · obtain ⟨rfl, h2, h3⟩ := h
    have h4 := (List.getElem?_eq_some_iff.1 h2).1
    rw [hc i c h2, (oS_kt _).1, oP_ky (by omega)] at h3
    simp at h3
  · have es : ∀ x : Cel, (cs ++ [(⟨newS (oP k) 0, g, fp⟩ : Cel)]).set cs.length x = cs ++ [x] := fun x => by simp
    unfold takeC at ht
    simp only [es] at ht
    have e2 : (putS (newS (oP k) 0) (oP k)).2 = oS k := rfl
    have e6 : ¬ ((putS (newS (oP k) 0) (oP k)).1 = 6) := by rw [o1]; decide
    have e9 : ¬ (q.h < holesN (oS k)) := by rw [hq, o3]; decide
    simp only [e2] at ht
    rw [if_neg e6, if_neg e9, o1] at ht
    generalize hD : cs ++ [(⟨oS k, g, fp1⟩ : Cel)] = D at ht
    have hDr : Run D m := by
      intro j d hd
      rw [← hD] at hd
      by_cases hj : j < cs.length
      · rw [List.getElem?_append_left hj] at hd; exact hc j d hd
      · rw [List.getElem?_append_right (by omega)] at hd
        have hj0 : j - cs.length = 0 := by
          have := (List.getElem?_eq_some_iff.1 hd).1
          simp only [List.length_cons, List.length_nil] at this
          omega
        rw [hj0] at hd
        simp only [List.getElem?_cons_zero, Option.some.injEq] at hd
        rw [← hd]
        show oS k = _
        congr 1; omega
    have hDl : D.length = cs.length + 1 := by rw [← hD]; simp
    have hov : ∀ i, i ≤ D.length → (overB q (D.drop i) = true ↔ st < D.length - i) := fun i hi => by
      have h8 : sumC (D.drop i) = 8 * ((D.drop i).length : Int) := sum8 _ (fun d hd => hDr.h (by omega) d (List.mem_of_mem_drop hd))
      have h9 := hst (D.drop i).length
      unfold overB
      rw [Bool.or_eq_true, decide_eq_true_eq, decide_eq_true_eq, h8, h9, List.length_drop]
    injection ht with t1 t2 t3 t4
    refine ⟨t1.symm, t2.symm, ?_⟩
    by_cases hs : cs.length < st
    · have hp : pushN q D = 0 := push_at (fun i hi => by omega) (by omega) (.inr (by
        rw [Bool.eq_false_iff]
        intro h5
        rw [hov 0 (by omega)] at h5
        omega))
      rw [hp] at t3 t4
      simp only [List.take_zero, List.map_nil, List.drop_zero] at t3 t4
      subst t3; subst t4
      exact ⟨by simp, m, by simp, by omega, by omega, hDr⟩
    · have hp : pushN q D = 1 := push_at (fun i hi => by
        have : i = 0 := by omega
        subst this
        rw [hov 0 (by omega)]
        omega) (by omega) (.inr (by
        rw [Bool.eq_false_iff]
        intro h5
        rw [hov 1 (by omega)] at h5
        omega))
      rw [hp] at t3 t4
      have hd0 : ∃ d r, D = d :: r := by
        cases hDD : D with
        | nil => rw [hDD] at hDl; simp at hDl
        | cons d r => exact ⟨d, r, rfl⟩
      obtain ⟨d, r, rfl⟩ := hd0
      have hd : d.s.k = oP m := by
        rw [hDr 0 d rfl]
        exact (oS_kt _).1
      simp only [List.take_succ_cons, List.take_zero, List.map_cons, List.map_nil, List.drop_succ_cons, List.drop_zero] at t3 t4
      subst t3; subst t4
      simp only [List.length_cons] at hDl
      refine ⟨by simp, m + 1, by rw [List.range_succ, List.map_append, hd]; rfl, by omega, by omega, fun j c hj => ?_⟩
      have := hDr (j + 1) c (by simpa using hj)
      rw [this]
      congr 1; omega
namespace K
theorem run_appLL (ty : TypeId) (w : World) (v u : Value) (xs ys : List Pk) (hown : LstK w v xs) (h : LstK w u ys) (hA : ∀ x ∈ ys, Ad x) (hk : xs.length + ys.length < 100000) :
    ∃ v' w', (Builtin.append_ #[30, 30] ty #[v, u]).run Tryd.prog w = .ok v' w' ∧ LstK w' v' (xs ++ ys) ∧ w.grownBy w' v.ownBlock ∧ Moved w v v' := by
  obtain ⟨i0, hi, hz0, hz1, hz2⟩ := info_parts infoK
  rcases h.shp with ⟨rfl, rfl⟩ | ⟨g, cap, rfl⟩
  · have hrun := run_append_owned_none (P := Tryd.prog) (w := w) 0 30 ty 48 i0 37 Tryd.underlying30 hi v _ _ hown
    exact ⟨v, w, hrun, by simpa using hown, ⟨rfl, rfl, rfl, Nat.le_refl _, fun _ _ _ => rfl⟩, Moved.refl _ _⟩
  · have hl := flatK_len ys hA
    obtain ⟨v', w', r1, r2, r3, r4⟩ := run_appN 30 ty 48 i0 _ 72 37 Tryd.underlying30 hi hz0 hz1 hz2 zK_size (by decide) w v xs.length (xs.flatMap listK) hown ⟨g, 0, none⟩ ys.length cap (ys.flatMap listK) hl (fun j u hj => by
      rw [add_plain, Nat.zero_add, World.ownsRow.cellAt h j (by have := (List.getElem?_eq_some_iff.1 hj).1; omega)]; exact hj) (flatK_one ys) (by unfold maxLen; omega) (by omega)
    refine ⟨v', w', r1, ?_, r3, r4⟩
    unfold LstK
    rw [List.flatMap_append, List.length_append]
    exact r2
end K
theorem wpList_appKK {ops : Array Oper} {rest : List Oper} {o : Oper} {a : Act} {w : World} {Q : Exit → Act → World → Prop} (hg : o.guard = none) (s t : Operand) (ho : o.op = .call { callee := .builtin .append, args := #[s, t], argTypes := #[30, 30] })
    (v u : Value) (xs ys : List Pk) (hs : a.eval s = v) (ht : a.eval t = u) (hown : K.LstK w v xs) (hsrc : K.LstK w u ys) (hA : ∀ x ∈ ys, Ad x) (hk : xs.length + ys.length < 100000)
    (h : ∀ v' w', K.LstK w' v' (xs ++ ys) → w.grownBy w' v.ownBlock → Moved w v v' → wpList Tryd.prog ops Q rest (a.put o.dst v') w') : wpList Tryd.prog ops Q (o :: rest) a w := by
  obtain ⟨v', w', hrun, r1, r2, r3⟩ := K.run_appLL o.type w v u xs ys hown hsrc hA hk
  refine wpList_plain hg fun KK hK => ?_
  unfold Oper.wp
  simp [execOp, ho, resolve, invoke, builtin, hs, ht, hrun, Result.andThen]
  exact hK _ _ (h v' w' r1 r2 r3)
end Go.Proofs.YtkccpidgeecemaaDoor
