/-
  The document's own New, Put, Holes, End, Done.
-/
import Derived.Test.YtcjkhpinccjncaaRef
namespace Go.Proofs.Ytcjkhpinccjncaa
open Go.ChangeShapes Go.WideShapes Go.ChangeAt Go.RowKit
set_option linter.unusedVariables false
set_option linter.unusedSimpArgs false
set_option maxRecDepth 100000

/-- One above the greatest that is there. -/
structure Top (T : Int → Bool) (top : Int) : Prop where
  lt : ∀ n, T n = true → n < top
  at_ : top = 0 ∨ T (top - 1) = true
  b : 0 ≤ top ∧ top ≤ 65535
theorem top_new : Top (fun _ => false) 0 := ⟨by simp, .inl rfl, by omega⟩
theorem Top.put {T : Int → Bool} {top off n : Int} (h : Top T top) (ha : argOk off n = true) : Top (fun k => T k || inS (off, off + n) k) (max top (off + n)) := by
  rw [arg_iff] at ha
  have hb := h.b
  refine ⟨fun k hk => ?_, .inr ?_, by omega⟩
  · rw [Bool.or_eq_true, inS_iff] at hk
    rcases hk with hk | hk
    · have := h.lt k hk; omega
    · simp only at hk; omega
  · rcases Int.lt_or_le top (off + n) with h1 | h1
    · rw [show max top (off + n) - 1 = off + n - 1 from by omega, show inS (off, off + n) (off + n - 1) = true from by rw [inS_iff]; simp only; omega]; simp
    · rw [show max top (off + n) - 1 = top - 1 from by omega]
      rcases h.at_ with h2 | h2
      · omega
      · rw [h2]; rfl
/-- When the document takes an end. -/
theorem end_top {T : Int → Bool} {m : List Sp} {e top to : Int} (h : Ho T m e) (ht : Top T top) (h0 : 1 ≤ to) (h1 : to ≤ 65535) (more : Bool) :
    endOk m e to more = true ↔ (if more = true then e = -1 ∨ to ≤ e else (e = -1 ∧ top ≤ to) ∨ (e ≠ -1 ∧ to = e)) := by
  rw [end_iff h h0 h1 more]
  cases more with
  | true => simp
  | false =>
    simp only [if_neg (show ¬ (false = true) by simp)]
    have hk : (∀ n, to ≤ n → T n = false) ↔ top ≤ to := by
      constructor
      · intro hc
        rcases ht.at_ with h2 | h2
        · omega
        · rcases Int.lt_or_le to top with h3 | h3
          · rw [hc (top - 1) (by omega)] at h2; simp at h2
          · exact h3
      · intro hc n hn
        rw [Bool.eq_false_iff]; intro hT
        have := ht.lt n hT
        omega
    rw [hk]
theorem Rf.set {w : World} {r t : Nat} {T : Int → Bool} {e top : Int} (h : Rf w r t T e top) {i : Nat} (hi : i < 65535) : Rf (w.setCell ⟨t, i, none⟩ (.bool true)) r t (fun n => T n || decide (n = (i : Int))) e top := by
  obtain ⟨cur, h1, h2⟩ := h.fl
  refine ⟨by rw [block_set_other h.ne]; exact h.blk, ⟨cur.setIfInBounds i (.bool true), block_set h1 i _, fun j hj => ?_⟩, h.ne⟩
  rw [Array.getElem?_setIfInBounds]
  have h3 := h2 j hj
  by_cases hij : i = j
  · subst hij
    have hs : i < cur.size := by
      rcases Nat.lt_or_ge i cur.size with h4 | h4
      · exact h4
      · rw [Array.getElem?_eq_none h4] at h3; simp at h3
    rw [if_pos rfl, if_pos hs]; simp
  · rw [if_neg hij, h3]
    have : ¬ ((j : Int) = (i : Int)) := by omega
    simp [this]
theorem Rf.congr {w : World} {r t : Nat} {T U : Int → Bool} {e top : Int} (h : Rf w r t T e top) (hu : ∀ n, T n = U n) : Rf w r t U e top := by
  obtain ⟨cur, h1, h2⟩ := h.fl
  exact ⟨h.blk, ⟨cur, h1, fun i hi => by rw [h2 i hi, hu]⟩, h.ne⟩
theorem Rf.setTop {w : World} {r t : Nat} {T : Int → Bool} {e top : Int} (h : Rf w r t T e top) (u : Int) : Rf (w.setCell ⟨r, 2, none⟩ (.int .i64 u)) r t T e u := by
  obtain ⟨cur, h1, h2⟩ := h.fl
  refine ⟨by have := block_set h.blk 2 (.int .i64 u); simpa using this, ⟨cur, by rw [block_set_other (Ne.symm h.ne)]; exact h1, h2⟩, h.ne⟩
theorem Rf.setEnd {w : World} {r t : Nat} {T : Int → Bool} {e top : Int} (h : Rf w r t T e top) (u : Int) : Rf (w.setCell ⟨r, 1, none⟩ (.int .i64 (u + 1))) r t T u top := by
  obtain ⟨cur, h1, h2⟩ := h.fl
  refine ⟨by have := block_set h.blk 1 (.int .i64 (u + 1)); simpa using this, ⟨cur, by rw [block_set_other (Ne.symm h.ne)]; exact h1, h2⟩, h.ne⟩
theorem made_get (n i : Nat) (h : i < n) : (madeCells (Value.bool false).cells n)[i]? = some (.bool false) := by
  unfold madeCells
  rw [Array.getElem?_map, Array.getElem?_eq_getElem (by simpa using h)]
  simp [Value.cells, Nat.mod_one]
theorem info4 : (Try.prog.info? 4).map (fun i => (i.zero, i.size, i.bytes)) = some (some (.bool false), 1, 1) := by kernel_rfl
set_option maxHeartbeats 2000000 in
theorem rnew_c (w : World) : Calls Try.prog 22 #[] w fun E w' => ∃ r t, E = .returned (.pointer (some ⟨r, 0, none⟩)) ∧ Rf w' r t (fun _ => false) (-1) 0 ∧ w.heap.size ≤ r ∧ w.heap.size ≤ t ∧ Away [] w w' := by
  obtain ⟨i0, hi, hz0, hz1, hz2⟩ := info_parts info4
  obtain ⟨O, hO⟩ : ∃ O : Obj, O = .cells (madeCells (Value.bool false).cells 65535) 4 := ⟨_, rfl⟩
  have hmk : ∀ wx, (Instr.makeSlice 57 (.int .i64 65535) (.int .i64 65535)).run Try.prog wx = .ok (.slice (some ⟨wx.heap.size, 0, none⟩) 65535 65535) (wx.alloc O) := fun wx => by
    have := run_make (P := Try.prog) wx 57 4 i0 _ Try.underlying57 hi hz0 .i64 .i64 65535 65535 (by omega) (by omega) (by rw [hz2]; omega) (by omega)
    rw [hz1] at this
    rw [hO]
    simpa using this
  have HO := hidI hO
  clear hO hi hz0 hz1 hz2
  go_enter Try.func22, Try.ntmps22
  go_wp2_with fail
  go_ret
  refine ⟨w.heap.size + 1, w.heap.size, rfl, ⟨?_, ⟨madeCells (Value.bool false).cells 65535, ?_, fun i hi => made_get _ _ hi⟩, by omega⟩, by omega, by omega, ((Away.refl _ _).alloc _).alloc _⟩
  · have := block_new (w.alloc O) (.cells #[.slice (some ⟨w.heap.size, 0, none⟩) 65535 65535, .int .i64 0, .int .i64 0] 59)
    rw [show (w.alloc O).heap.size = w.heap.size + 1 from by simp] at this
    exact this
  · have := ((Away.refl [] _).alloc (.cells #[.slice (some ⟨w.heap.size, 0, none⟩) 65535 65535, .int .i64 0, .int .i64 0] 59)).keep (g := w.heap.size) (by simp) (block_new w O)
    rw [this, HO.out]
set_option maxHeartbeats 1000000 in
theorem rend_c {w : World} {r t : Nat} {T : Int → Bool} {e top : Int} (h : Rf w r t T e top) (he : e = -1 ∨ (1 ≤ e ∧ e ≤ 65535)) : Calls Try.prog 25 #[.pointer (some ⟨r, 0, none⟩)] w fun E w' => E = .returned (.int .i64 e) ∧ w' = w := by
  have c1 := h.c1
  have hb : -1 ≤ e ∧ e ≤ 65535 := by omega
  clear h he
  go_enter Try.func25, Try.ntmps25
  go_wp2_with fail
  go_ret
  exact ⟨by first | rfl | (simp; done) | (congr 2; omega), rfl⟩
set_option maxHeartbeats 2000000 in
theorem rholes_c {w : World} {r t : Nat} {T : Int → Bool} {e top : Int} {m : List Sp} (h : Rf w r t T e top) (ho : Ho T m e) : Calls Try.prog 23 #[.pointer (some ⟨r, 0, none⟩)] w fun E w' => ∃ v, E = .returned v ∧ Mk w w' v m := by
  have c1 := h.c1
  have hen := ho.en
  have key : ∀ l, Of l (runP T 0 (topOf e)) → l = m := fun l hl => Of.uniq hl ho.of
  have HK := hidI key
  have H := hidI h
  clear h ho key
  by_cases he : e = -1
  · subst he
    have KS := hidI (spans_c 0 65535 H.out (by omega) (by omega) (by omega))
    go_enter Try.func23, Try.ntmps23
    go_wp2_with fail
    refine KS.out.mono ?_
    rintro E w2 ⟨v, rfl, l, hmk, hof⟩
    have HM : Hid (Mk w w2 v m) := by rw [← HK.out l hof]; exact hmk
    clear hmk hof
    go_wp2_with fail
    go_ret
    exact ⟨v, rfl, HM.out⟩
  · have h1 : 1 ≤ e ∧ e ≤ 65535 := by omega
    obtain ⟨h1, h2⟩ := h1
    have KS := hidI (spans_c 0 e H.out (by omega) (by omega) (by omega))
    have htop : topOf e = e := by unfold topOf; rw [if_neg he]
    rw [htop] at HK
    clear hen he htop
    go_enter Try.func23, Try.ntmps23
    go_wp2_with fail
    refine KS.out.mono ?_
    rintro E w2 ⟨v, rfl, l, hmk, hof⟩
    have HM : Hid (Mk w w2 v m) := by rw [← HK.out l hof]; exact hmk
    clear hmk hof
    go_wp2_with fail
    go_ret
    exact ⟨v, rfl, HM.out⟩
set_option maxHeartbeats 2000000 in
theorem rdone_c {w : World} {r t : Nat} {T : Int → Bool} {e top : Int} {m : List Sp} (h : Rf w r t T e top) (ho : Ho T m e) : Calls Try.prog 26 #[.pointer (some ⟨r, 0, none⟩)] w fun E w' => E = .returned (.bool (doneP m e)) ∧ Away [] w w' := by
  have hen := ho.en
  have KH := hidI (rholes_c h ho)
  have H := hidI h
  have hsh := ho_short ho
  have HR := hidI ho.of.right
  clear h ho
  go_enter Try.func26, Try.ntmps26
  go_wp2_with fail
  refine KH.out.mono ?_
  rintro E w2 ⟨v, rfl, hmk⟩
  have c1 := (H.out.on hmk.2.2).c1
  obtain ⟨a, cap, rfl, -⟩ := hmk.1.row (by omega) (fun s hs => is_ok (right_is HR.out s hs))
  have HA := hidI hmk.2.2
  clear hmk
  by_cases he : e = -1
  · subst he
    have HZ : Hid (doneP m (-1) = false) := by show _ = _; simp [doneP]
    go_wp2_with fail
    go_ret
    exact ⟨by rw [HZ.out]; rfl, HA.out⟩
  · have h1 : 0 < e + 1 := by omega
    by_cases hm : m = []
    · subst hm
      have HZ : Hid (doneP [] e = true) := by show _ = _; simp [doneP, he]
      go_wp2_with fail
      go_ret
      exact ⟨by rw [HZ.out]; simp_all, HA.out⟩
    · have HZ : Hid (doneP m e = false) := by show _ = _; simp [doneP, hm]
      have hl : ¬ ((m.length : Int) = 0) := fun h => hm (List.eq_nil_of_length_eq_zero (by omega))
      generalize m.length = n at *
      clear hm
      go_wp2_with fail
      go_ret
      exact ⟨by rw [HZ.out]; simp_all, HA.out⟩
end Go.Proofs.Ytcjkhpinccjncaa
