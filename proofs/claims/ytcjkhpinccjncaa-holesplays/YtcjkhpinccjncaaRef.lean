/-
  The document's own list: every offset has a flag.
-/
import Derived.Test.YtcjkhpinccjncaaPcN
import Derived.Test.YtcjkhpinccjncaaQt
import Derived.Laws.MakeOwn
namespace Go.Proofs.Ytcjkhpinccjncaa
open Go.ChangeShapes Go.WideShapes Go.ChangeAt Go.RowKit
set_option linter.unusedVariables false
set_option linter.unusedSimpArgs false
set_option maxRecDepth 100000

theorem flat_set (o : List Sp) (p : Sp) (u : Int) : ((o ++ [p]).flatMap encS).set (o.length * 2 + 1) (.int .i64 u) = (o ++ [(p.1, u)]).flatMap encS := by
  rw [flat_snoc, flat_snoc, List.set_append_right _ _ (by rw [flat_two]; omega), flat_two]
  rw [show o.length * 2 + 1 - o.length * 2 = 1 from by omega]; rfl
theorem Lst.setTo {g n cap : Nat} {w : World} {o : List Sp} {p : Sp} (h : Lst w (.slice (some ⟨g, 0, none⟩) n cap) (o ++ [p])) (hn : n = o.length + 1) (u : Int) :
    Lst (w.setCell ⟨g, o.length * 2 + 1, none⟩ (.int .i64 u)) (.slice (some ⟨g, 0, none⟩) n cap) (o ++ [(p.1, u)]) := by
  have h' := h
  unfold Lst at h' ⊢
  rw [← flat_set]
  subst hn
  rw [List.length_append] at h' ⊢
  exact (World.ownsRow.stored h' (o.length * 2 + 1) (.int .i64 u)).1
theorem Lst.free {g n cap : Nat} {w : World} {l : List Sp} (h : Lst w (.slice (some ⟨g, 0, none⟩) n cap) l) (hn : n = l.length) (i : Nat) : w.frozen? ⟨g, i, none⟩ = false := by
  subst hn; exact World.ownsRow.frozenAt h i

def Few (n : Nat) : Prop := n < 8796093022208
/-! Spans, one offset after the other. -/
def runP (T : Int → Bool) (f i : Int) (n : Int) : Bool := decide (f ≤ n ∧ n < i) && !T n
theorem run_skip {T : Int → Bool} {f i : Int} {l : List Sp} (h : Of l (runP T f i)) (hi : T i = true) : Of l (runP T f (i + 1)) := ⟨h.right, fun n => by
  rw [h.has]
  unfold runP
  by_cases hn : n = i
  · subst hn; rw [hi]; simp
  · congr 1; rw [decide_eq_decide]; omega⟩
theorem run_last {T : Int → Bool} {f i : Int} {o : List Sp} {p : Sp} (h : Of (o ++ [p]) (runP T f i)) : p.2 ≤ i := by
  have hp := right_is h.right p (by simp)
  unfold Is at hp
  have h1 : inB (o ++ [p]) (p.2 - 1) = true := inB_iff.2 ⟨p, by simp, by omega, by omega⟩
  rw [h.has] at h1
  unfold runP at h1
  rw [Bool.and_eq_true, decide_eq_true_eq] at h1
  omega
theorem run_grow {T : Int → Bool} {f i : Int} {o : List Sp} {p : Sp} (h : Of (o ++ [p]) (runP T f i)) (hp : p.2 = i) (hT : T i = false) (hf : f ≤ i) (hi : i < 65535) : Of (o ++ [(p.1, i + 1)]) (runP T f (i + 1)) := by
  have hr := h.right
  unfold rightP at hr
  rw [rf_append, Bool.and_eq_true, rf_cons] at hr
  obtain ⟨r1, r2, r3, -⟩ := hr
  unfold Is at r2
  refine ⟨?_, fun n => ?_⟩
  · unfold rightP
    rw [rf_append, Bool.and_eq_true, rf_cons]
    exact ⟨r1, ⟨by simp only; omega, by simp only; omega, by simp only; omega⟩, r3, rfl⟩
  · have h1 := h.has n
    rw [inB_append] at h1 ⊢
    have e1 : inB [(p.1, i + 1)] n = (inB [p] n || decide (n = i)) := by
      simp only [inB, inS, List.any_cons, List.any_nil, Bool.or_false]
      rw [Bool.eq_iff_iff]
      simp only [Bool.or_eq_true, decide_eq_true_eq]
      omega
    rw [e1, ← Bool.or_assoc, h1]
    unfold runP
    by_cases hn : n = i
    · subst hn; rw [hT]; simp; omega
    · rw [decide_eq_false hn, Bool.or_false]; congr 1; rw [decide_eq_decide]; omega
theorem run_more {T : Int → Bool} {f i : Int} {l : List Sp} (h : Of l (runP T f i)) (hl : ∀ o p, l = o ++ [p] → p.2 ≠ i) (hT : T i = false) (h0 : 0 ≤ f) (hf : f ≤ i) (hi : i < 65535) : Of (l ++ [(i, i + 1)]) (runP T f (i + 1)) := by
  refine ⟨?_, fun n => ?_⟩
  · unfold rightP
    rw [rf_append, Bool.and_eq_true, rf_cons]
    refine ⟨h.right, ⟨by simp only; omega, by simp only; omega, by simp only; omega⟩, ?_, rfl⟩
    rcases nil_or_snoc l with rfl | ⟨o, p, rfl⟩
    · show (-1 : Int) < i; omega
    · rw [endOf_append]
      have h1 := run_last h
      have h2 := hl o p rfl
      show p.2 < i
      omega
  · rw [inB_append, h.has]
    unfold runP
    simp only [inB, inS, List.any_cons, List.any_nil, Bool.or_false]
    by_cases hn : n = i
    · subst hn; rw [hT]; simp; omega
    · rw [decide_eq_false (show ¬ (i ≤ n ∧ n < i + 1) by omega), Bool.or_false]; congr 1; rw [decide_eq_decide]; omega
theorem run_none (T : Int → Bool) (f : Int) : Of [] (runP T f f) := ⟨rfl, fun n => by
  rw [inB_nil]; unfold runP; rw [decide_eq_false (by omega)]; rfl⟩

/-- The document's list at block r, its flags at block t. -/
structure Rf (w : World) (r t : Nat) (T : Int → Bool) (e top : Int) : Prop where
  blk : w.heap[r]? = some (.cells #[.slice (some ⟨t, 0, none⟩) 65535 65535, .int .i64 (e + 1), .int .i64 top] 59 (0, 0))
  fl : ∃ cur : Array Value, w.heap[t]? = some (.cells cur 4 (0, 0)) ∧ ∀ i : Nat, i < 65535 → cur[i]? = some (.bool (T i))
  ne : r ≠ t
theorem Rf.away {S : List Nat} {w w' : World} {r t : Nat} {T : Int → Bool} {e top : Int} (h : Rf w r t T e top) (hw : Away S w w') (hr : r ∉ S) (ht : t ∉ S) : Rf w' r t T e top := by
  obtain ⟨cur, h1, h2⟩ := h.fl
  exact ⟨hw.keep hr h.blk, ⟨cur, hw.keep ht h1, h2⟩, h.ne⟩
theorem Rf.on {w w' : World} {r t : Nat} {T : Int → Bool} {e top : Int} (h : Rf w r t T e top) (hw : Away [] w w') : Rf w' r t T e top := h.away hw (by simp) (by simp)
theorem Rf.c0 {w : World} {r t : Nat} {T : Int → Bool} {e top : Int} (h : Rf w r t T e top) : w.cell? ⟨r, 0, none⟩ = some (.slice (some ⟨t, 0, none⟩) 65535 65535) := by rw [cell_of_block h.blk]; rfl
theorem Rf.c1 {w : World} {r t : Nat} {T : Int → Bool} {e top : Int} (h : Rf w r t T e top) : w.cell? ⟨r, 1, none⟩ = some (.int .i64 (e + 1)) := by rw [cell_of_block h.blk]; rfl
theorem Rf.c2 {w : World} {r t : Nat} {T : Int → Bool} {e top : Int} (h : Rf w r t T e top) : w.cell? ⟨r, 2, none⟩ = some (.int .i64 top) := by rw [cell_of_block h.blk]; rfl
theorem Rf.flag {w : World} {r t : Nat} {T : Int → Bool} {e top : Int} (h : Rf w r t T e top) {i : Nat} (hi : i < 65535) : w.cell? ⟨t, i, none⟩ = some (.bool (T i)) := by
  obtain ⟨cur, h1, h2⟩ := h.fl
  rw [cell_of_block h1, h2 i hi]
theorem Rf.free {w : World} {r t : Nat} {T : Int → Bool} {e top : Int} (h : Rf w r t T e top) (i : Nat) : w.frozen? ⟨r, i, none⟩ = false ∧ w.frozen? ⟨t, i, none⟩ = false := by
  obtain ⟨cur, h1, h2⟩ := h.fl
  exact ⟨free_of_block h.blk i, free_of_block h1 i⟩
set_option maxHeartbeats 8000000 in
theorem spans_c {w : World} {r t : Nat} {T : Int → Bool} {e top : Int} (f to : Int) (h : Rf w r t T e top) (h0 : 0 ≤ f) (h1 : f ≤ to) (h2 : to ≤ 65535) :
    Calls Try.prog 32 #[.pointer (some ⟨r, 0, none⟩), .int .i64 f, .int .i64 to, .bool false] w fun E w' => ∃ v, E = .returned v ∧ ∃ l, Mk w w' v l ∧ Of l (runP T f to) := by
  have H := hidI h
  clear h
  go_enter Try.func32, Try.ntmps32
  go_wp2_with fail
  go_loopw [9, 10] (fun u i wr => ∃ (k : Nat) (l : List Sp), i = .int .i64 (k : Int) ∧ f ≤ (k : Int) ∧ (k : Int) ≤ to ∧ Mk w wr u l ∧ Of l (runP T f k)) (fun _ i _ => 65535 - (intOf i).toNat)
  case atStart => exact ⟨f.toNat, [], by rw [show ((f.toNat : Nat) : Int) = f from by omega], by omega, by omega, Mk.nil _, by rw [show ((f.toNat : Nat) : Int) = f from by omega]; exact run_none T f⟩
  case round =>
    obtain ⟨k, l, rfl, hf, hto, hmk, hof⟩ := hrel
    have HM := hidI hmk
    have HO := hidI hof
    have hsh := right_short hof.right
    clear hmk hof
    by_cases hlt : (k : Int) < to
    · have H2 := hidI (H.out.on HM.out.2.2)
      have c0 := H2.out.c0
      have cf := H2.out.flag (i := k) (by omega)
      have j2 : 0 ≤ (k : Int) := by omega
      have j3 : (k : Int) < 65535 := by omega
      have j4 : ((k : Int)).toNat = k := by omega
      cases hT : T k with
      | true =>
        rw [hT] at cf
        have HO2 := hidI (run_skip HO.out hT)
        clear hT
        go_wp2_with fail
        go_roundw
        case rel => exact ⟨k + 1, l, by go_num, by omega, by omega, HM.out, by rw [show ((k + 1 : Nat) : Int) = (k : Int) + 1 from by omega]; exact HO2.out⟩
        case measure => simp [intOf]; omega
      | false =>
        rw [hT] at cf
        have HTT := hidI hT
        clear hT
        rcases nil_or_snoc l with rfl | ⟨o, p, rfl⟩
        · obtain ⟨a', cap', rfl, -⟩ := HM.out.1.row (by simp) (by simp)
          have HO2 := hidI (run_more HO.out (fun o p hc => by simp at hc) HTT.out h0 hf (by omega))
          go_wp2_with (at_builtin; refine wpList_app2 rfl _ _ rfl _ [] rfl (by exact HM.out.1.on ((Away.refl [] _).alloc _)) ⟨_, 0, none⟩ 1 rfl ((k : Int), (k : Int) + 1) (by simp) (by rw [add_plain]; simp) (by simp) ?_)
          intro v' w2 hown2 hgr hmov
          have HM2 : Hid (Mk w w2 v' ([] ++ [((k : Int), (k : Int) + 1)])) := ⟨hown2, HM.out.2.1.moved hmov (by have := HM.out.2.2.size; simp; omega), (HM.out.2.2.alloc _).step hgr HM.out.2.1⟩
          clear hgr hmov hown2
          go_wp2_with fail
          go_roundw
          case rel => exact ⟨k + 1, _, by go_num, by omega, by omega, HM2.out, by rw [show ((k + 1 : Nat) : Int) = (k : Int) + 1 from by omega]; exact HO2.out⟩
          case measure => simp [intOf]; omega
        · have hlast := run_last HO.out
          obtain ⟨a', cap', he, hcap, hnil, hrow, hown⟩ := HM.out.1.row (by omega) (fun s hs => is_ok (right_is HO.out.right s hs))
          obtain ⟨n, hn⟩ : ∃ n, n = (o ++ [p]).length := ⟨_, rfl⟩
          have hno : n = o.length + 1 := by rw [hn]; simp
          rw [← hn] at he
          obtain ⟨g, og, rfl, c3, c4, -⟩ := hrow.at (k := o.length) (x := p) (by simp)
          subst he
          obtain ⟨e1, e2, -⟩ := hown _ rfl
          simp only at e2
          subst e2
          rw [Nat.zero_add] at c4
          have hol : o.length ≤ 32767 := by omega
          obtain ⟨q, hq⟩ : ∃ q, q = o.length := ⟨_, rfl⟩
          have HQ := hidI hq
          have HNN := hidI hno
          rw [← hq] at c4 c3 hno
          have t2 : 0 ≤ (q : Int) := by omega
          have t3 : (q : Int) < (q : Int) + 1 := by omega
          have t4 : ((q : Int)).toNat = q := by omega
          obtain ⟨p1, p2⟩ := p
          simp only at c4 hlast
          have hfz := HM.out.1.free (by rw [hn]) (q * 2 + 1)
          have hqb : q ≤ 32767 := by omega
          subst hno
          clear hrow hown hnil c3 hn hq hol hsh e1 hcap hlast
          by_cases hpk : p2 = k
          · subst hpk
            have HO2 := hidI (run_grow HO.out rfl HTT.out hf (by omega))
            have HL2 := hidI (HM.out.1.setTo HNN.out ((k : Int) + 1))
            have HM2 : Hid (Mk w (wr.setCell ⟨g, q * 2 + 1, none⟩ (.int .i64 ((k : Int) + 1))) (.slice (some ⟨g, 0, none⟩) (q + 1) cap') (o ++ [(p1, (k : Int) + 1)])) := by
              refine ⟨by have h9 := HL2.out; rw [← HQ.out] at h9; exact h9, HM.out.2.1, HM.out.2.2.setCell (.inr (HM.out.2.1 g rfl)) _⟩
            go_wp2_with fail
            go_roundw
            case rel => exact ⟨k + 1, _, by go_num, by omega, by omega, HM2.out, by rw [show ((k + 1 : Nat) : Int) = (k : Int) + 1 from by omega]; exact HO2.out⟩
            case measure => simp [intOf]; omega
          · have HLN : Hid (Few (o ++ [(p1, p2)]).length) := by show _ < _; rw [List.length_append, ← HQ.out]; simp only [List.length_cons, List.length_nil]; omega
            have HO2 := hidI (run_more HO.out (fun o' p' hc => by
              have := (List.append_inj' hc rfl).2
              simp at this; rw [← this]; exact hpk) HTT.out h0 hf (by omega))
            have hpb : (p2 == (k : Int)) = false := by simp [hpk]
            clear hpk
            go_wp2_with (at_builtin; refine wpList_app2 rfl _ _ rfl _ (o ++ [(p1, p2)]) rfl (by exact HM.out.1.on ((Away.refl [] _).alloc _)) ⟨_, 0, none⟩ 1 rfl ((k : Int), (k : Int) + 1) (by simp) (by rw [add_plain]; simp) (by exact HLN.out) ?_)
            intro v' w2 hown2 hgr hmov
            have HM2 : Hid (Mk w w2 v' ((o ++ [(p1, p2)]) ++ [((k : Int), (k : Int) + 1)])) := ⟨by simpa using hown2, HM.out.2.1.moved hmov (by have := HM.out.2.2.size; simp; omega), (HM.out.2.2.alloc _).step hgr HM.out.2.1⟩
            clear hgr hmov hown2
            go_wp2_with fail
            go_roundw
            case rel => exact ⟨k + 1, _, by go_num, by omega, by omega, HM2.out, by rw [show ((k + 1 : Nat) : Int) = (k : Int) + 1 from by omega]; exact HO2.out⟩
            case measure => simp [intOf]; omega
    · have hkt : (k : Int) = to := by omega
      have HO2 : Hid (Of l (runP T f to)) := by rw [← hkt]; exact HO.out
      go_wp2_with fail
      go_ret
      exact ⟨_, rfl, l, HM.out, HO2.out⟩
end Go.Proofs.Ytcjkhpinccjncaa
