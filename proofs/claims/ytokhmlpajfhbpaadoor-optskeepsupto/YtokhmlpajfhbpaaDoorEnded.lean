/-
  ended; lists of options laid behind one another.
-/
import Derived.Test.YtokhmlpajfhbpaaDoorKit
namespace Go.Proofs.YtokhmlpajfhbpaaDoor
open Go.ChangeShapes Go.WideShapes Go.ChangeAt Go.RowKit Go.Deep
set_option linter.unusedVariables false
set_option maxRecDepth 100000
theorem szP_le (o : O) : szP o ≤ 2 + o.2.length := by unfold szP; split <;> omega
set_option maxHeartbeats 2000000 in
theorem ended_c (a' : Option Addr) (L n' cap' : Nat) (a : Option Addr) (xs : List V) (n cap : Nat) (w : World) (hn' : n' = L) (hL : L ≤ 1048576) (hn : xs.length = n) (ho : Opts w a xs) (hk : ∀ x ∈ xs, 1 ≤ x.kd) (ht : tot (xs.map V.o) ≤ 1048576) :
    Calls Tryd.prog 15 #[.slice a' n' cap', .slice a n cap] w fun E w' => E = .returned (.bool (decide (tot (xs.map V.o) < L))) ∧ w' = w := by
  subst hn; subst hn'
  have hlen := ho.1
  have HO : Hid (Opts w a xs) := ho
  have HK : Hid (∀ x ∈ xs, 1 ≤ x.kd) := hk
  have HT : Hid (tot (xs.map V.o) ≤ 1048576) := ht
  clear ho hk ht
  go_enter Tryd.func15, Tryd.ntmps15
  go_wp2_with fail
  go_loopw [5, 6] (fun s i wr => ∃ k : Nat, k ≤ xs.length ∧ i = .int .i64 k ∧ s = .int .i64 (tot ((xs.take k).map V.o)) ∧ wr = w) (fun _ i _ => xs.length - (intOf i).toNat)
  case atStart => exact ⟨0, by omega, rfl, rfl, rfl⟩
  case round =>
    obtain ⟨k, hk, rfl, rfl, rfl⟩ := hrel
    have htk : tot ((xs.take k).map V.o) + tot ((xs.drop k).map V.o) = tot (xs.map V.o) := by
      rw [← tot_app, ← List.map_append, List.take_append_drop]
    have htk2 : tot ((xs.take k).map V.o) ≤ 1048576 := by have := HT.out; omega
    clear htk
    by_cases hlt : k < xs.length
    · obtain ⟨x, hx, hmem⟩ := get_of_lt hlt
      obtain ⟨b, off, rfl, c0, c1, hrow⟩ := cells_opts HO.out hx
      have hTs : Hid (tot ((xs.take (k + 1)).map V.o) = tot ((xs.take k).map V.o) + szP x.o) := by
        show _ = _
        rw [take_snoc hx, List.map_append, tot_app]; simp [tot]
      have hd63 := hrow.1
      have h1 := HK.out x hmem
      clear hx hrow hmem
      obtain ⟨kd, ba, bc, d⟩ := x
      simp only at c0 c1 hd63 h1
      generalize tot ((xs.take k).map V.o) = T at *
      by_cases q : kd = 1
      · subst q
        have hz : Hid (szP (V.o ⟨1, ba, bc, d⟩) = 1) := by show _ = _; simp [szP, V.o]
        go_wp2_with fail
        go_roundw
        case rel => exact ⟨k + 1, by omega, by go_num, by rw [hTs.out, hz.out]; go_num, by trivial⟩
        case measure => simp [intOf]; omega
      · have hz : Hid (szP (V.o ⟨kd, ba, bc, d⟩) = 2 + d.length) := by show _ = _; simp [szP, V.o, q]
        have q2 : 1 < kd := by omega
        go_wp2_with fail
        go_roundw
        case rel => exact ⟨k + 1, by omega, by go_num, by rw [hTs.out, hz.out]; go_num, by trivial⟩
        case measure => simp [intOf]; omega
    · have hkk : xs.take k = xs := List.take_of_length_le (by omega)
      rw [hkk] at htk2 ⊢
      generalize hT : tot (xs.map V.o) = T at *
      have HTT : Hid (tot (xs.map V.o) = T) := hT
      clear hT
      go_wp2_with fail
      go_ret
      refine ⟨?_, rfl⟩
      rw [HTT.out]
      simp
#print axioms ended_c
/-- Bytes appended to bytes of the call's own, nil or not, behind a guard or not. -/
theorem wpList_appA {w : World} {ops : Array Oper} {rest : List Oper} {o : Oper} {a : Act} {Q : Exit → Act → World → Prop} (hw : Region.wanted o (yielded ops a.tmps) = true) (s x : Operand)
    (ho : o.op = .call { callee := .builtin .append, args := #[s, x], argTypes := #[22, 22] }) (v : Value) (l m : List Int) (hs : a.eval s = v) (hown : Owns w v l)
    (ad : Option Addr) (n c : Nat) (hx : a.eval x = .slice ad n c) (hn : m.length = n) (hnone : ad = none → c = 0) (hrow : Row w ad m) (hlen : l.length + n ≤ 140737488355328)
    (h : ∀ v' w', Owns w' v' (l ++ m) → Away v.ownBlock.toList w w' → Moved w v v' → wpList Tryd.prog ops Q rest (a.put o.dst v') w') : wpList Tryd.prog ops Q (o :: rest) a w := by
  rcases ad with _ | ad
  · have h0 : m = [] := by rcases hrow.2.2 with h | ⟨_, _, h, _⟩ <;> simp_all
    subst h0
    obtain rfl := hnone rfl
    obtain rfl : n = 0 := by simpa using hn.symm
    obtain ⟨i0, hi, hz0, hz1, hz2⟩ := info_parts info5
    have hrun := run_append_owned_none (P := Tryd.prog) (w := w) 0 22 o.type 5 i0 1 Tryd.underlying22 hi v _ _ hown
    refine wpList_step fun K hK => ?_
    rw [if_pos hw]
    unfold Oper.wp
    simp [execOp, ho, resolve, invoke, builtin, hs, hx, hrun, Result.andThen]
    exact hK _ _ (h v w (by simpa using hown) (Away.refl _ _) (Moved.refl _ _))
  · obtain ⟨v', w', hrun, r1, r2, r3⟩ := run_appB o.type w v l m hown ad n c hn hrow.src hlen
    refine wpList_step fun K hK => ?_
    rw [if_pos hw]
    unfold Oper.wp
    simp [execOp, ho, resolve, invoke, builtin, hs, hx, hrun, Result.andThen]
    exact hK _ _ (h v' w' r1 ((Away.refl _ _).grown r2 (fun k hk => .inl (by simp [hk]))) r3)
theorem opts_cells {w : World} {ad : Addr} {ys : List V} (h : Opts w (some ad) ys) (j : Nat) (u : Value) (hj : (ys.flatMap V.cells)[j]? = some u) : w.cell? (ad.add j) = some u := by
  rcases h.2.2 with h0 | ⟨b, off, e, hc⟩
  · rw [h0] at hj; simp at hj
  · simp at e; subst e
    have hlt : j < ys.length * 2 := by
      rcases Nat.lt_or_ge j (ys.length * 2) with h | h
      · exact h
      · rw [List.getElem?_eq_none (by rw [flat_two]; exact h)] at hj; simp at hj
    obtain ⟨x, hx, _⟩ := get_of_lt (xs := ys) (k := j / 2) (by omega)
    obtain ⟨f1, f2⟩ := flat_get ys (j / 2) x hx
    obtain ⟨g1, g2⟩ := hc (j / 2) x hx
    rw [add_plain]
    by_cases hp : j % 2 = 0
    · rw [show j / 2 * 2 = j from by omega] at f1 g1
      rw [f1] at hj
      rw [g1]; exact hj
    · rw [show j / 2 * 2 + 1 = j from by omega] at f2
      rw [show off + j / 2 * 2 + 1 = off + j from by omega] at g2
      rw [f2] at hj
      rw [g2]; exact hj
theorem one_cells (ys : List V) : ∀ u ∈ ys.flatMap V.cells, u.oneCell' = true := by
  intro u hu
  obtain ⟨y, _, hy⟩ := List.mem_flatMap.1 hu
  simp [V.cells] at hy
  rcases hy with rfl | rfl <;> rfl
/-- Options appended to a list of the call's own. -/
theorem wpList_appO {w : World} {ops : Array Oper} {rest : List Oper} {o : Oper} {a : Act} {Q : Exit → Act → World → Prop} (hw : Region.wanted o (yielded ops a.tmps) = true) (s x : Operand)
    (ho : o.op = .call { callee := .builtin .append, args := #[s, x], argTypes := #[23, 23] }) (v : Value) (xs ys : List V) (hs : a.eval s = v) (hown : Lst w v xs)
    (ad : Option Addr) (n c : Nat) (hx : a.eval x = .slice ad n c) (hn : ys.length = n) (hnone : ad = none → c = 0) (hop : Opts w ad ys) (hlen : xs.length + n ≤ 4398046511104)
    (h : ∀ v' w', Lst w' v' (xs ++ ys) → Away v.ownBlock.toList w w' → Moved w v v' → wpList Tryd.prog ops Q rest (a.put o.dst v') w') : wpList Tryd.prog ops Q (o :: rest) a w := by
  obtain ⟨i0, hi, hz0, hz1, hz2⟩ := info_parts info38
  rcases ad with _ | ad
  · have h0 : ys = [] := by rcases hop.2.2 with h | ⟨_, _, h, _⟩ <;> simp_all
    subst h0
    obtain rfl := hnone rfl
    obtain rfl : n = 0 := by simpa using hn.symm
    have hrun := run_append_owned_none (P := Tryd.prog) (w := w) 0 23 o.type 38 i0 2 Tryd.underlying23 hi v _ _ hown
    refine wpList_step fun K hK => ?_
    rw [if_pos hw]
    unfold Oper.wp
    simp [execOp, ho, resolve, invoke, builtin, hs, hx, hrun, Result.andThen]
    exact hK _ _ (h v w (by simpa using hown) (Away.refl _ _) (Moved.refl _ _))
  · obtain ⟨v', w', hrun, r1, r2, r3⟩ := run_appN 23 o.type 38 i0 _ 32 2 Tryd.underlying23 hi hz0 hz1 hz2 rfl (by decide) w v xs.length (xs.flatMap V.cells) hown ad n c (ys.flatMap V.cells) (by rw [flat_two, hn]) (opts_cells hop) (one_cells ys) (by unfold maxLen; omega) (by omega)
    refine wpList_step fun K hK => ?_
    rw [if_pos hw]
    unfold Oper.wp
    simp [execOp, ho, resolve, invoke, builtin, hs, hx, hrun, Result.andThen]
    refine hK _ _ (h v' w' ?_ ((Away.refl _ _).grown r2 (fun k hk => .inl (by simp [hk]))) r3)
    unfold Lst
    rw [List.length_append, List.flatMap_append, hn]
    exact r1
/-- What Parse tells, told alike whether it is OK or not. -/
def PO (w : World) (l : List Int) (va : Option Addr) (vn vc : Nat) (e : Int) (w' : World) : Prop :=
  Away [] w w' ∧ ((parseP l = none ∧ vn = 0 ∧ e = 40) ∨ ∃ xs : List V, parseP l = some (xs.map V.o) ∧ e = 0 ∧ vn = xs.length ∧ Made w' w.heap.size (.slice va vn vc) xs ∧ Opts w' va xs ∧ (va = none → vc = 0) ∧ xs.length ≤ l.length)
def ParseU (w : World) (l : List Int) (E : Ending) (w' : World) : Prop := ∃ va vn vc e, E = .returned (.tuple #[.slice va vn vc, .int .i64 e]) ∧ PO w l va vn vc e w'
theorem parse_u (a : Option Addr) (l : List Int) (n cap : Nat) (w : World) (hn : l.length = n) (hcap : n ≤ cap) (hsz : n ≤ 4398046511104) (hr : Row w a l) (hg : Glob w) :
    Calls Tryd.prog 9 #[.slice a n cap] w fun E w' => ParseU w l E w' := by
  refine (parse_c a l n cap w hn hcap hsz hr hg).mono ?_
  rintro E w' ⟨haw, ⟨hp, rfl⟩ | ⟨v, xs, hp, rfl, hm, hxl⟩⟩
  · exact ⟨none, 0, 0, 40, rfl, haw, .inl ⟨hp, rfl, rfl⟩⟩
  · obtain ⟨va, vc, rfl, hvc, hvn, hopts, _⟩ := hm.opts (by omega)
    exact ⟨va, xs.length, vc, 0, rfl, haw, .inr ⟨xs, hp, rfl, rfl, hm, hopts, hvn, hxl⟩⟩
#print axioms parse_u
end Go.Proofs.YtokhmlpajfhbpaaDoor
