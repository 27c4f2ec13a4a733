/-
  Lists of pieces in memory: reslices, appends; rest.
-/
import Derived.Test.YtcjkhpinccjncaaPcN
import Derived.Test.YtcjkhpinccjncaaQt
namespace Go.Proofs.Ytcjkhpinccjncaa
open Go.ChangeShapes Go.WideShapes Go.ChangeAt Go.RowKit
set_option linter.unusedVariables false
set_option linter.unusedSimpArgs false
set_option maxRecDepth 100000

def encP (x : Pc) : List Value := [.int .i64 x.o, .int .i64 x.n, .bool x.m]
theorem flatP_len (l : List Pc) : (l.flatMap encP).length = l.length * 3 := by
  induction l with
  | nil => rfl
  | cons x r ih => rw [List.flatMap_cons, List.length_append, ih]; simp [encP]; omega
theorem flatP_one (l : List Pc) : ∀ u ∈ l.flatMap encP, u.oneCell' = true := by
  intro u hu
  obtain ⟨x, _, hx⟩ := List.mem_flatMap.1 hu
  simp [encP] at hx
  rcases hx with rfl | rfl | rfl <;> rfl
theorem flatP_get : ∀ (l : List Pc) (i : Nat) (x : Pc), l[i]? = some x → (l.flatMap encP)[i * 3]? = some (.int .i64 x.o) ∧ (l.flatMap encP)[i * 3 + 1]? = some (.int .i64 x.n) ∧ (l.flatMap encP)[i * 3 + 2]? = some (.bool x.m)
  | y :: r, 0, x, h => by simp at h; subst h; simp [encP]
  | y :: r, i + 1, x, h => by
    have := flatP_get r i x (by simpa using h)
    rw [List.flatMap_cons, List.getElem?_append_right (by simp [encP]; omega), List.getElem?_append_right (by simp [encP]; omega), List.getElem?_append_right (by simp [encP]; omega)]
    rw [show (i + 1) * 3 - (encP y).length = i * 3 from by simp [encP]; omega, show (i + 1) * 3 + 1 - (encP y).length = i * 3 + 1 from by simp [encP]; omega, show (i + 1) * 3 + 2 - (encP y).length = i * 3 + 2 from by simp [encP]; omega]
    exact this
/-- A list of pieces of the call's own. -/
def LstC (w : World) (v : Value) (l : List Pc) : Prop := w.ownsRow 0 32 3 v l.length (l.flatMap encP)
theorem LstC.away {S : List Nat} {w w' : World} {v : Value} {l : List Pc} (h : LstC w v l) (hw : Away S w w') (ha : ∀ k, v.ownBlock = some k → k ∉ S) : LstC w' v l := by
  obtain ⟨h1, h2⟩ := h
  refine ⟨h1, ?_⟩
  rcases h2 with h2 | ⟨g, cap, cur, rfl, hg, hh, r⟩
  · exact .inl h2
  · exact .inr ⟨g, cap, cur, rfl, hg, hw.keep (ha g rfl) hh, r⟩
theorem LstC.on {w w' : World} {v : Value} {l : List Pc} (h : LstC w v l) (hw : Away [] w w') : LstC w' v l := h.away hw (by simp)
theorem LstC.nil (w : World) : LstC w (.slice none 0 0) [] := World.ownsRow_nil _ _ _ _
theorem LstC.lt {w : World} {v : Value} {l : List Pc} (h : LstC w v l) : ∀ k, v.ownBlock = some k → k < w.heap.size := fun k hk => (World.ownsRow.lt h k hk).2
theorem getP_lt {l : List Pc} {i : Nat} {x : Pc} (h : l[i]? = some x) : i < l.length := by
  rcases Nat.lt_or_ge i l.length with h' | h'
  · exact h'
  · rw [List.getElem?_eq_none h'] at h; simp at h
theorem getP_of {l : List Pc} {i : Nat} (h : i < l.length) : ∃ x, l[i]? = some x ∧ x ∈ l := ⟨l[i], by simp [h], by simp⟩
theorem LstC.row {w : World} {v : Value} {l : List Pc} (h : LstC w v l) (hok : ∀ x ∈ l, OkP x) :
    ∃ a cap, v = .slice a l.length cap ∧ l.length ≤ cap ∧ (a = none → cap = 0) ∧ RowC w a l ∧ (∀ p, a = some p → v.ownBlock = some p.block) := by
  have h0 := h
  rcases h.2 with ⟨rfl, h2⟩ | ⟨g, cap, cur, rfl, hg, hh, hn, hc, hs, ht⟩
  · have : l = [] := by simpa using h2
    subst this
    exact ⟨none, 0, rfl, Nat.le_refl _, fun _ => rfl, ⟨by simp, .inl rfl⟩, by simp⟩
  · refine ⟨some ⟨g, 0, none⟩, cap, rfl, hn, by simp, ⟨hok, .inr ⟨g, 0, rfl, fun i x hx => ?_⟩⟩, by simp [Value.ownBlock]⟩
    have hi := getP_lt hx
    have := flatP_get l i x hx
    rw [Nat.zero_add, World.ownsRow.cellAt h0 (i * 3) (by omega), World.ownsRow.cellAt h0 (i * 3 + 1) (by omega), World.ownsRow.cellAt h0 (i * 3 + 2) (by omega)]
    exact this
/-- A tail of a row. -/
theorem RowC.tail {w : World} {a : Option Addr} {l : List Pc} (h : RowC w a l) (k cap : Nat) (hcap : l.length ≤ cap) (hk : k ≤ l.length) : RowC w (if cap = k then a else a.map (·.add (k * 3))) (l.drop k) := by
  obtain ⟨h2, h3⟩ := h
  refine ⟨fun x hx => h2 x (List.mem_of_mem_drop hx), ?_⟩
  by_cases he : l.drop k = []
  · exact .inl he
  · right
    have hne : k < l.length := by
      rcases Nat.lt_or_ge k l.length with h | h
      · exact h
      · exact absurd (List.drop_eq_nil_of_le h) he
    rcases h3 with rfl | ⟨b, off, rfl, hc⟩
    · simp at hne
    · refine ⟨b, off + k * 3, by rw [if_neg (by omega)]; simp [add_plain], fun i x hx => ?_⟩
      rw [List.getElem?_drop] at hx
      have := hc (k + i) x hx
      rw [show off + k * 3 + i * 3 = off + (k + i) * 3 from by omega]
      exact this
theorem RowC.head {w : World} {a : Option Addr} {l : List Pc} (h : RowC w a l) (m : Nat) : RowC w a (l.take m) := by
  obtain ⟨h2, h3⟩ := h
  refine ⟨fun x hx => h2 x (List.mem_of_mem_take hx), ?_⟩
  rcases h3 with rfl | ⟨b, off, rfl, hc⟩
  · left; simp
  · right
    refine ⟨b, off, rfl, fun i x hx => hc i x ?_⟩
    rw [List.getElem?_take] at hx
    split at hx
    · exact hx
    · simp at hx
theorem info32 : (Try.prog.info? 32).map (fun i => (i.zero, i.size, i.bytes)) = some (some (.agg #[.int .i64 0, .int .i64 0, .bool false]), 3, 24) := by kernel_rfl
/-- Pieces appended, from a row that can be read. -/
theorem run_appC (ty : TypeId) (w : World) (v : Value) (l m : List Pc) (hown : LstC w v l) (ad : Option Addr) (n c : Nat) (hn : m.length = n) (hnil : ad = none → c = 0) (hr : RowC w ad m) (hk : l.length + n ≤ 1000000000) :
    ∃ v' w', (Builtin.append_ #[22, 22] ty #[v, .slice ad n c]).run Try.prog w = .ok v' w' ∧ LstC w' v' (l ++ m) ∧ w.grownBy w' v.ownBlock ∧ Moved w v v' := by
  subst hn
  obtain ⟨i0, hi, hz0, hz1, hz2⟩ := info_parts info32
  rcases ad with _ | ad
  · obtain rfl : m = [] := by rcases hr.2 with h | ⟨_, _, h, _⟩ <;> simp_all
    obtain rfl := hnil rfl
    refine ⟨v, w, ?_, by simpa using hown, ⟨rfl, rfl, rfl, Nat.le_refl _, fun _ _ _ => rfl⟩, Moved.refl _ _⟩
    rcases hown.2 with ⟨rfl, h2⟩ | ⟨g, cap, cur, rfl, hg, hh, hn, hc, hs, ht⟩
    · simp [Builtin.append_, run_underlying Try.underlying22, Builtin.lenOf, Builtin.firstCells, sizeOf, typeInfo, hi, hz1, h2]
    · simp [Builtin.append_, run_underlying Try.underlying22, Builtin.lenOf, Builtin.firstCells, sizeOf, typeInfo, hi, hz1, hn, storeCells]
  · obtain ⟨v', w', hrun, r1, r2, r3⟩ := run_appN 22 ty 32 i0 _ 24 3 Try.underlying22 hi hz0 hz1 hz2 rfl (by decide) w v l.length (l.flatMap encP) hown ad m.length c (m.flatMap encP) (flatP_len m) (fun j u hj => by
        have hlt : j < m.length * 3 := by
          rw [← flatP_len]
          rcases Nat.lt_or_ge j (m.flatMap encP).length with h' | h'
          · exact h'
          · rw [List.getElem?_eq_none h'] at hj; simp at hj
        obtain ⟨x, hx, _⟩ := getP_of (show j / 3 < m.length by omega)
        obtain ⟨b, off, hb, ⟨c1, c2, c3⟩, _⟩ := hr.at hx
        obtain ⟨f1, f2, f3⟩ := flatP_get m (j / 3) x hx
        simp at hb; subst hb
        rw [add_plain]
        rcases (show j = j / 3 * 3 ∨ j = j / 3 * 3 + 1 ∨ j = j / 3 * 3 + 2 by omega) with h0 | h0 | h0
        · rw [show off + j = off + j / 3 * 3 from by omega, c1, ← hj]; rw [← h0] at f1; exact f1.symm
        · rw [show off + j = off + j / 3 * 3 + 1 from by omega, c2, ← hj]; rw [← h0] at f2; exact f2.symm
        · rw [show off + j = off + j / 3 * 3 + 2 from by omega, c3, ← hj]; rw [← h0] at f3; exact f3.symm) (flatP_one m) (by unfold maxLen; omega) (by omega)
    refine ⟨v', w', hrun, ?_, r2, r3⟩
    unfold LstC
    rw [List.length_append, List.flatMap_append]
    exact r1
/-- As a step of a walk. -/
theorem wpList_appC {w : World} {ops : Array Oper} {rest : List Oper} {o : Oper} {a : Act} {Q : Exit → Act → World → Prop} (hgd : o.guard = none) (s t : Operand)
    (ho : o.op = .call { callee := .builtin .append, args := #[s, t], argTypes := #[22, 22] }) (v : Value) (l m : List Pc) (hs : a.eval s = v) (hown : LstC w v l)
    (ad : Option Addr) (n c : Nat) (ht : a.eval t = .slice ad n c) (hn : m.length = n) (hnil : ad = none → c = 0) (hr : RowC w ad m) (hk : l.length + n ≤ 1000000000)
    (h : ∀ v' w', LstC w' v' (l ++ m) → w.grownBy w' v.ownBlock → Moved w v v' → wpList Try.prog ops Q rest (a.put o.dst v') w') : wpList Try.prog ops Q (o :: rest) a w := by
  obtain ⟨v', w', hrun, r1, r2, r3⟩ := run_appC o.type w v l m hown ad n c hn hnil hr hk
  refine wpList_plain hgd fun _ hK => ?_
  unfold Oper.wp
  simp [execOp, ho, resolve, invoke, builtin, hs, ht, hrun, Result.andThen]
  exact hK _ _ (h v' w' r1 r2 r3)
/-! Reslices. -/
theorem size32 (wx : World) : (sizeOf (Try.prog.elem 22)).run Try.prog wx = .ok 3 wx := by kernel_rfl
theorem under22 : Try.prog.underlying 22 = some (.slice (Try.prog.elem 22)) := by kernel_rfl
theorem sliceC_l (a A : Option Addr) (len cap k : Nat) (lo : Int) (hA : A = if cap = k then a else a.map (·.add (k * 3))) (hlo : lo = k) (hm : k ≤ len) (wx : World) :
    (Instr.sliceAt 22 (.slice a len cap) (some (.int .i64 lo)) none none).run Try.prog wx = .ok (.slice A (len - k) (cap - k)) wx := by
  subst hlo; subst hA
  rw [run_sliceAt_slice (h := under22), run_slice_l (ht := under22) (h0 := by omega) (h1 := by omega), size32]
  simp only [Result.andThen, sliced]
  rw [show (k : Int).toNat = k from by omega]
theorem sliceC_h (a : Option Addr) (len cap m : Nat) (hi : Int) (hhi : hi = m) (hm : m ≤ cap) (wx : World) :
    (Instr.sliceAt 22 (.slice a len cap) none (some (.int .i64 hi)) none).run Try.prog wx = .ok (.slice a m cap) wx := by
  subst hhi
  rw [run_sliceAt_slice (h := under22), run_slice_h (ht := under22) (h0 := by omega) (h2 := by omega), size32]
  simp only [Result.andThen, sliced]
  rw [show (m : Int).toNat = m from by omega]
  simp [Addr.add]
set_option maxHeartbeats 1000000 in
theorem rest_c (n hi : Int) (w : World) (hn : I64 n) (h0 : 0 ≤ hi) (h1 : hi ≤ 1000000000) :
    Calls Try.prog 11 #[.int .i64 n, .int .i64 hi] w fun E w' => E = .returned (.int .i64 (restP n hi)) ∧ w' = w := by
  unfold I64 at hn
  have a1 : n.tmod (hi + 1) < hi + 1 := Int.tmod_lt_of_pos n (by omega)
  have a2 : -(hi + 1) < n.tmod (hi + 1) := Int.lt_tmod_of_pos n (by omega)
  have hz : ¬ (hi + 1 = 0) := by omega
  have HZ : Hid (restP n hi = if n.tmod (hi + 1) < 0 then n.tmod (hi + 1) + hi + 1 else n.tmod (hi + 1)) := rfl
  generalize restP n hi = z at *
  by_cases h : n.tmod (hi + 1) < 0
  · have HQ : Hid (z = n.tmod (hi + 1) + hi + 1) := by show _ = _; rw [HZ.out, if_pos h]
    clear HZ
    go_enter Try.func11, Try.ntmps11
    go_wp2_with fail
    go_ret
    exact ⟨by rw [HQ.out]; first | rfl | simp, rfl⟩
  · have HQ : Hid (z = n.tmod (hi + 1)) := by show _ = _; rw [HZ.out, if_neg h]
    clear HZ
    go_enter Try.func11, Try.ntmps11
    go_wp2_with fail
    go_ret
    exact ⟨by rw [HQ.out]; first | rfl | simp, rfl⟩
end Go.Proofs.Ytcjkhpinccjncaa
