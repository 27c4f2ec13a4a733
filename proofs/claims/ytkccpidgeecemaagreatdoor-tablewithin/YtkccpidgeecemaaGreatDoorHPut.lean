/-
  endAt, mayReach, mayEnd, Put, Holes, End, Done, New.
-/
import Derived.Test.YtkccpidgeecemaaGreatDoorHTake
import Derived.Deep.RegionWith
namespace Go.Proofs.YtkccpidgeecemaaGreatDoor.H
open Go.ChangeShapes Go.WideShapes Go.ChangeAt Go.RowKit
set_option linter.unusedVariables false
set_option linter.unusedSimpArgs false

theorem Hl.set {w : World} {g : Nat} {v : Value} {m : List Sp} {e : Int} (h : Hl w g v m e) (t : Int) : Hl (w.setCell ⟨g, 1, none⟩ (.int .i64 t)) g v m t := by
  refine ⟨by have := block_set h.blk 1 (.int .i64 t); simpa using this, h.lst.away (S := [g]) ((Away.refl _ _).setCell (.inl (by simp)) _) (fun k hk => by simpa using h.own k hk), h.own, h.right⟩
def EndOut (w : World) (g : Nat) (v : Value) (m : List Sp) (to : Int) (E : Ending) (w' : World) : Prop :=
  ∃ v', E = .returned (.tuple #[]) ∧ Hl w' g v' (shutP m to) to ∧ Moved w v v' ∧ Away (g :: v.ownBlock.toList) w w'
set_option maxHeartbeats 2000000 in
theorem endAt_c {w : World} {g : Nat} {v : Value} {m : List Sp} {e : Int} (to : Int) (h : Hl w g v m e) (h1 : 1 ≤ to) (h2 : to ≤ 65535) :
    Calls Tryz.prog 87 #[.pointer (some ⟨g, 0, none⟩), .int .i64 to] w fun E w' => EndOut w g v m to E w' := by
  have c1 := h.c1
  have f1 := h.free 1
  have H := hidI h
  have hset : Away [g] w (w.setCell ⟨g, 1, none⟩ (.int .i64 to)) := (Away.refl _ _).setCell (.inl (by simp)) _
  have HSET := hidI hset
  have H1 := hidI (h.set to)
  clear h hset
  by_cases hlt : to < 65535
  · have HSH : Hid (shutP m to = cutP m (to, 65535)) := by show _ = _; unfold shutP; rw [if_pos hlt]
    have KT : Hid (Calls Tryz.prog 86 #[.pointer (some ⟨g, 0, none⟩), .agg #[.int .i64 to, .int .i64 65535]] (w.setCell ⟨g, 1, none⟩ (.int .i64 to)) fun E w' => TakeOut (w.setCell ⟨g, 1, none⟩ (.int .i64 to)) g v (freshP m (to, 65535)) (cutP m (to, 65535)) to E w') :=
      take_c (to, 65535) H1.out ⟨by simp only; omega, by simp only; omega, by simp only; omega⟩
    go_enter Tryz.func87, Tryz.ntmps87
    go_wp2_with fail
    refine KT.out.mono ?_
    rintro E w2 ⟨r, v', rfl, ht⟩
    have HT := hidI ht
    clear ht
    go_wp2_with fail
    go_end0
    have ht := HT.out
    refine ⟨v', rfl, by rw [HSH.out]; exact ht.hl, fun k hk => ?_, (HSET.out.mono (by simp)).next ht.aw (fun z hz => .inl hz)⟩
    rcases ht.moved k hk with h | h
    · exact .inl h
    · exact .inr (by simpa using h)
  · have HSH : Hid (shutP m to = m) := by show _ = _; unfold shutP; rw [if_neg hlt]
    go_enter Tryz.func87, Tryz.ntmps87
    go_wp2_with fail
    go_end0
    exact ⟨v, rfl, by rw [HSH.out]; exact H1.out, Moved.refl _ _, HSET.out.mono (by simp)⟩
set_option maxHeartbeats 1000000 in
theorem reach_c {w : World} {g : Nat} {v : Value} {m : List Sp} {e : Int} (to : Int) (h : Hl w g v m e) :
    Calls Tryz.prog 84 #[.pointer (some ⟨g, 0, none⟩), .int .i64 to] w fun E w' => E = .returned (.bool (endOk m e to true)) ∧ w' = w := by
  have c1 := h.c1
  clear h
  have HZ : Hid (endOk m e to true = decide (e = -1 ∨ to ≤ e)) := by show _ = _; unfold endOk; rw [if_pos rfl]
  generalize endOk m e to true = z at *
  by_cases he : e = -1
  · subst he
    go_enter Tryz.func84, Tryz.ntmps84
    go_wp2_with fail
    go_ret
    exact ⟨by rw [HZ.out]; simp, rfl⟩
  · by_cases ht : to ≤ e
    · go_enter Tryz.func84, Tryz.ntmps84
      go_wp2_with fail
      go_ret
      exact ⟨by rw [HZ.out]; simp [he, ht], rfl⟩
    · have HE := hidI he
      have HT := hidI ht
      go_enter Tryz.func84, Tryz.ntmps84
      go_wp2_with fail
      go_ret
      exact ⟨by rw [HZ.out, decide_eq_false (show ¬ (e = -1 ∨ to ≤ e) by have h1 := HE.out; have h2 := HT.out; omega), show (e == -1) = false from beq_false_of_ne HE.out]; rfl, rfl⟩
set_option maxHeartbeats 4000000 in
theorem mayEnd_c {w : World} {g : Nat} {v : Value} {m : List Sp} {e : Int} (to : Int) (h : Hl w g v m e) (h1 : 1 ≤ to) (h2 : to ≤ 65535) :
    Calls Tryz.prog 85 #[.pointer (some ⟨g, 0, none⟩), .int .i64 to] w fun E w' => E = .returned (.bool (endOk m e to false)) ∧ Away [] w w' := by
  have c1 := h.c1
  have HZ : Hid (endOk m e to false = if e = -1 then decide (to = 65535) || hasP m (to, 65535) else decide (to = e)) := by show _ = _; unfold endOk; rw [if_neg (by simp)]
  by_cases he : e = -1
  · by_cases hto : to = 65535
    · have HQ : Hid (endOk m e to false = true) := by show _ = _; rw [HZ.out, if_pos he, hto]; simp
      generalize endOk m e to false = z at *
      subst he
      subst hto
      clear h HZ
      go_enter Tryz.func85, Tryz.ntmps85
      go_wp2_with fail
      go_ret
      exact ⟨by rw [HQ.out]; rfl, Away.refl _ _⟩
    · have HQ : Hid (endOk m e to false = hasP m (to, 65535)) := by show _ = _; rw [HZ.out, if_pos he, decide_eq_false hto, Bool.false_or]
      generalize endOk m e to false = z at *
      clear HZ
      subst he
      have hs : Is (to, 65535) := ⟨by simp only; omega, by simp only; omega, by simp only; omega⟩
      obtain ⟨a, cap, hv, hcap, hnone, hrow, hab⟩ := h.slice
      have hm := h.right
      have H := hidI h
      have HS := hidI hs
      have HM := hidI hm
      obtain ⟨n, hn⟩ : ∃ n, n = m.length := ⟨_, rfl⟩
      rw [← hn] at hv hcap
      have HN := hidI hn
      subst hv
      have hsh := right_short hm
      rw [← hn] at hsh
      clear h hrow hn hm hs hab hnone
      go_enter Tryz.func85, Tryz.ntmps85
      go_wp2_with fail
      obtain ⟨w1, hw1⟩ : ∃ w1, w1 = w.alloc (.cells #[.int .i64 to, .int .i64 65535] 112) := ⟨_, rfl⟩
      have HA1 : Hid (Away [] w w1) := by show Away _ _ _; rw [hw1]; exact (Away.refl _ _).alloc _
      have K1 : w1.cell? ⟨w.heap.size, 0, none⟩ = some (.int .i64 to) := by rw [hw1]; simp
      have K2 : w1.cell? ⟨w.heap.size, 1, none⟩ = some (.int .i64 65535) := by rw [hw1]; simp
      rw [← hw1]
      clear hw1
      refine (met_c (to, 65535) (H.out.on HA1.out) HS.out).mono ?_
      rintro E w2 ⟨i, j, rfl, hmet, haw2⟩
      have hij := hmet.le
      have hjn : j ≤ n := by rw [HN.out]; exact hmet.len
      have HA2 := hidI (HA1.out.trans haw2)
      have k1 := haw2.cell (by simp) K1
      have k2 := haw2.cell (by simp) K2
      have H2 := hidI (H.out.on HA2.out)
      have c2 := (H.out.on HA2.out).c0
      clear haw2 K1 K2
      obtain ⟨A1, hA1⟩ : ∃ A1, A1 = if cap = i then a else a.map (·.add (i * 2)) := ⟨_, rfl⟩
      have hsl := slice_lh a A1 n cap i (j - i) (i : Int) (j : Int) hA1 rfl (by omega) (by omega)
      have HRow : Hid (Row w2 A1 ((m.drop i).take (j - i))) := by
        obtain ⟨a', cap', he, -, -, hr, -⟩ := H2.out.slice
        simp only [Value.slice.injEq] at he
        obtain ⟨rfl, -, rfl⟩ := he
        rw [hA1]
        exact (hr.tail i cap (by rw [← HN.out]; exact hcap) (by rw [← HN.out]; omega)).head (j - i)
      have hL : ((m.drop i).take (j - i)).length = j - i := by simp; rw [← HN.out]; omega
      have hMR : rightP ((m.drop i).take (j - i)) = true := hmet.mid HM.out
      have KH : Hid (∀ q, Calls Tryz.prog 96 #[.slice A1 (j - i) (cap - i), .agg #[.int .i64 to, .int .i64 65535]] (w2.drewN q) fun E w' => E = .returned (.bool z) ∧ Away [] w w') := fun q => by
        refine (has_c A1 _ (to, 65535) (j - i) (cap - i) (w2.drewN q) hL (HRow.out.drewN q)).mono ?_
        rintro E w' ⟨rfl, haw⟩
        refine ⟨?_, (HA2.out.drewN q).trans haw⟩
        rw [HQ.out, hMR, isB_iff.2 HS.out, hmet.has HM.out HS.out]
        rfl
      clear hmet hA1 HRow hL hMR
      go_wp2_with fail
      go_region_with (go_at_call 96; refine (KH.out 1).mono ?_; rintro E w3 ⟨rfl, haw3⟩)
      all_goals
        go_wp2_with fail
        go_ret
        exact ⟨rfl, haw3⟩
  · by_cases ht : to = e
    · have HQ : Hid (endOk m e to false = true) := by show _ = _; rw [HZ.out, if_neg he, ht]; simp
      generalize endOk m e to false = z at *
      clear h HZ
      go_enter Tryz.func85, Tryz.ntmps85
      go_wp2_with fail
      go_ret
      exact ⟨by rw [HQ.out]; rfl, Away.refl _ _⟩
    · have HQ : Hid (endOk m e to false = false) := by show _ = _; rw [HZ.out, if_neg he, decide_eq_false ht]
      generalize endOk m e to false = z at *
      clear h HZ
      have HT := hidI ht
      go_enter Tryz.func85, Tryz.ntmps85
      go_wp2_with fail
      go_ret
      exact ⟨by rw [HQ.out]; simp [HT.out], Away.refl _ _⟩
set_option maxHeartbeats 1000000 in
theorem end_c {w : World} {g : Nat} {v : Value} {m : List Sp} {e : Int} (h : Hl w g v m e) : Calls Tryz.prog 71 #[.pointer (some ⟨g, 0, none⟩)] w fun E w' => E = .returned (.int .i64 e) ∧ w' = w := by
  have c1 := h.c1
  clear h
  go_enter Tryz.func71, Tryz.ntmps71
  go_wp2_with fail
  go_ret
  exact ⟨rfl, rfl⟩
def doneP (m : List Sp) (e : Int) : Bool := decide (e ≠ -1) && decide (m = [])
set_option maxHeartbeats 1000000 in
theorem done_c {w : World} {g : Nat} {v : Value} {m : List Sp} {e : Int} (h : Hl w g v m e) : Calls Tryz.prog 69 #[.pointer (some ⟨g, 0, none⟩)] w fun E w' => E = .returned (.bool (doneP m e)) ∧ w' = w := by
  have c1 := h.c1
  obtain ⟨a, cap, hv, -⟩ := h.slice
  have c0 := h.c0
  rw [hv] at c0
  clear h hv
  by_cases he : e = -1
  · subst he
    have HZ : Hid (doneP m (-1) = false) := by show _ = _; simp [doneP]
    generalize doneP m (-1) = z at *
    go_enter Tryz.func69, Tryz.ntmps69
    go_wp2_with fail
    go_ret
    exact ⟨by rw [HZ.out]; simp_all, rfl⟩
  · by_cases hm : m = []
    · subst hm
      have HZ : Hid (doneP [] e = true) := by show _ = _; simp [doneP, he]
      generalize doneP [] e = z at *
      go_enter Tryz.func69, Tryz.ntmps69
      go_wp2_with fail
      go_ret
      exact ⟨by rw [HZ.out]; simp_all, rfl⟩
    · have HZ : Hid (doneP m e = false) := by show _ = _; simp [doneP, hm]
      have hl : ¬ ((m.length : Int) = 0) := fun h => hm (List.eq_nil_of_length_eq_zero (by omega))
      generalize doneP m e = z at *
      generalize m.length = n at *
      clear hm
      go_enter Tryz.func69, Tryz.ntmps69
      go_wp2_with fail
      go_ret
      exact ⟨by rw [HZ.out]; simp_all, rfl⟩
theorem eqnil27_some (a : Addr) (n c : Nat) (w : World) : (binOp .eql 102 (.slice (some a) n c) (.slice none 0 0)).run Tryz.prog w = .ok (.bool false) w := by kernel_rfl
theorem eqnil27_none (n c : Nat) (w : World) : (binOp .eql 102 (.slice none n c) (.slice none 0 0)).run Tryz.prog w = .ok (.bool true) w := by kernel_rfl
set_option maxHeartbeats 1000000 in
theorem clone_c (v : Value) (l : List Sp) (w : World) (hl : Lst w v l) (hr : rightP l = true) : Calls Tryz.prog 74 #[v] w fun E w' => ∃ r, E = .returned r ∧ Mk w w' r l := by
  obtain ⟨a, cap, hv, hcap, hnone, hrow, -⟩ := hl.row (by have := right_short hr; omega) (fun x hx => is_ok (right_is hr x hx))
  have hsh := right_short hr
  subst hv
  rcases a with _ | p
  · obtain rfl : l = [] := by rcases hrow.2.2 with h | ⟨_, _, h, _⟩ <;> simp_all
    have he := eqnil27_none
    go_enter Tryz.func74, Tryz.ntmps74
    go_wp2_with fail
    go_ret
    exact ⟨_, rfl, Mk.nil _⟩
  · have HR := hidI hrow
    clear hl hrow hnone hr
    have he := eqnil27_some p l.length cap
    go_enter Tryz.func74, Tryz.ntmps74
    go_wp2_with (at_builtin; refine wpList_appL rfl _ _ rfl _ [] l rfl (by exact (show Blk (w.alloc (.cells #[] 112)) w.heap.size 0 [] from ⟨block_new _ _, rfl⟩).lst (by unfold maxLen; omega) rfl (Nat.le_refl _) rfl) (some p) l.length cap rfl rfl (by simp) (by exact HR.out.on ((Away.refl [] w).alloc _)) (by simp; omega) ?_)
    intro v' w2 hown2 hgr hmov
    go_wp2_with fail
    go_ret
    refine ⟨_, rfl, by simpa using hown2, fun k hk => ?_, ?_⟩
    · rcases hmov k hk with h1 | h1
      · simp [Value.ownBlock] at h1; omega
      · simp at h1; omega
    · exact ((Away.refl _ _).alloc _).grown hgr (fun k hk => .inr (by simp [Value.ownBlock] at hk; omega))
set_option maxHeartbeats 1000000 in
theorem holes_c {w : World} {g : Nat} {v : Value} {m : List Sp} {e : Int} (h : Hl w g v m e) : Calls Tryz.prog 60 #[.pointer (some ⟨g, 0, none⟩)] w fun E w' => ∃ r, E = .returned r ∧ Mk w w' r m := by
  obtain ⟨a, cap, hv, -⟩ := h.slice
  have c0 := h.c0
  have KC := hidI (clone_c v m w h.lst h.right)
  rw [hv] at c0 KC
  clear h hv
  go_enter Tryz.func60, Tryz.ntmps60
  go_wp2_with fail
  refine KC.out.mono ?_
  rintro E w2 ⟨r, rfl, hmk⟩
  have HM := hidI hmk
  clear hmk
  go_wp2_with fail
  go_ret
  exact ⟨r, rfl, HM.out⟩
set_option maxHeartbeats 1000000 in
theorem new_c (w : World) : Calls Tryz.prog 78 #[] w fun E w' => ∃ g v, E = .returned (.pointer (some ⟨g, 0, none⟩)) ∧ Hl w' g v [(0, 65535)] (-1) ∧ w.heap.size ≤ g ∧ New w.heap.size v ∧ Away [] w w' := by
  go_enter Tryz.func78, Tryz.ntmps78
  go_wp2_with fail
  go_ret
  refine ⟨w.heap.size + 1, .slice (some ⟨w.heap.size, 0, none⟩) 1 1, rfl, ⟨?_, ?_, fun k hk => ?_, rfl⟩, by omega, fun k hk => by simp [Value.ownBlock] at hk; omega, ((Away.refl _ _).alloc _).alloc _⟩
  · have := block_new (w.alloc (.cells #[.int .i64 0, .int .i64 65535] 112)) (.cells #[.slice (some ⟨w.heap.size, 0, none⟩) 1 1, .int .i64 (-1)] 114)
    rw [show (w.alloc (.cells #[.int .i64 0, .int .i64 65535] 112)).heap.size = w.heap.size + 1 from by simp] at this
    exact this
  · exact (show Blk _ w.heap.size 1 [.int .i64 0, .int .i64 65535] from ⟨((Away.refl [] _).alloc _).keep (by simp) (block_new w _), rfl⟩).lst (by unfold maxLen; omega) rfl (Nat.le_refl _) rfl
  · simp [Value.ownBlock] at hk; omega
/-- What Put tells and leaves. -/
def PutOut (w : World) (g : Nat) (v : Value) (m : List Sp) (e off n : Int) (more : Bool) (E : Ending) (w' : World) : Prop :=
  (putOk m e off n more = true ∧ ∃ r v', E = .returned (.tuple #[r, .int .i64 0]) ∧ Took w w' g v r v' (freshP m (off, off + n)) (putM m off n more) (putE e off n more)) ∨
  (putOk m e off n more = false ∧ E = .returned (.tuple #[.slice none 0 0, .int .i64 1]) ∧ Away [] w w')
theorem Took.on {w0 w w' : World} {g : Nat} {v r v' : Value} {f c : List Sp} {e : Int} (h : Took w w' g v r v' f c e) (hw : Away [] w0 w) : Took w0 w' g v r v' f c e :=
  ⟨h.fresh, h.new.mono hw.size, h.hl, fun k hk => by rcases h.moved k hk with h1 | h1; exact .inl h1; exact .inr (Nat.le_trans hw.size h1), h.apart, (hw.mono (by simp)).next h.aw (fun z hz => .inl hz)⟩
set_option maxHeartbeats 4000000 in
theorem put_c' {w : World} {g : Nat} {v : Value} {m : List Sp} {e : Int} (off n : Int) (more : Bool) (h : Hl w g v m e) (ho : I64 off) (hn : I64 n) :
    Calls Tryz.prog 80 #[.pointer (some ⟨g, 0, none⟩), .int .i64 off, .int .i64 n, .bool more] w fun E w' => PutOut w g v m e off n more E w' := by
  unfold I64 at ho hn
  by_cases ha : 0 ≤ off ∧ 1 ≤ n ∧ n ≤ 65535 - off
  · have HARG : Hid (argOk off n = true) := arg_iff.2 ha
    obtain ⟨a1, a2, a3⟩ := ha
    have H := hidI h
    clear h
    cases hk : endOk m e (off + n) more
    · have HNO : Hid (putOk m e off n more = false) := by show _ = _; unfold putOk; rw [hk]; simp
      cases more
      · have KE := hidI (mayEnd_c (off + n) H.out (by omega) (by omega))
        rw [hk] at KE
        go_enter Tryz.func80, Tryz.ntmps80
        go_wp2_with fail
        refine KE.out.mono ?_
        rintro E w2 ⟨rfl, haw2⟩
        go_wp2_with fail
        go_ret2
        exact .inr ⟨HNO.out, rfl, haw2⟩
      · have KE := hidI (reach_c (off + n) H.out)
        rw [hk] at KE
        go_enter Tryz.func80, Tryz.ntmps80
        go_wp2_with fail
        refine KE.out.mono ?_
        rintro E w2 ⟨rfl, rfl⟩
        go_wp2_with fail
        go_ret2
        exact .inr ⟨HNO.out, rfl, Away.refl _ _⟩
    · have HYES : Hid (putOk m e off n more = true) := by show _ = _; unfold putOk; rw [hk, HARG.out]; rfl
      have HI : Hid (Is (off, off + n)) := arg_is HARG.out
      cases more
      · have KE := hidI (mayEnd_c (off + n) H.out (by omega) (by omega))
        rw [hk] at KE
        go_enter Tryz.func80, Tryz.ntmps80
        go_wp2_with fail
        refine KE.out.mono ?_
        rintro E w2 ⟨rfl, haw2⟩
        have HA2 := hidI haw2
        have KT : Hid (Calls Tryz.prog 86 #[.pointer (some ⟨g, 0, none⟩), .agg #[.int .i64 off, .int .i64 (off + n)]] w2 fun E w' => TakeOut w2 g v (freshP m (off, off + n)) (cutP m (off, off + n)) e E w') := take_c (off, off + n) (H.out.on haw2) HI.out
        clear haw2
        go_wp2_with fail
        refine KT.out.mono ?_
        rintro E w3 ⟨r, v3, rfl, ht⟩
        have HT := hidI ht
        have KA := hidI (endAt_c (off + n) ht.hl (by omega) (by omega))
        clear ht
        go_wp2_with fail
        refine KA.out.mono ?_
        rintro E w4 ⟨v4, rfl, hh, hmv, haw4⟩
        have HT4 : Hid (Took w w4 g v r v4 (freshP m (off, off + n)) (putM m off n false) (putE e off n false)) := by
          have t := HT.out
          have hr : ∀ k, r.ownBlock = some k → k ∉ g :: v3.ownBlock.toList := fun k hk hc => by
            simp only [List.mem_cons, Option.mem_toList] at hc
            rcases hc with hc | hc
            · have := t.new k hk
              have := lt_of_block (H.out.on HA2.out).blk
              omega
            · exact t.apart k hk hc
          refine (show Took w2 w4 g v r v4 _ _ _ from ⟨t.fresh.away haw4 hr, t.new, hh, fun k hk => ?_, fun k hk hc => ?_, t.aw.next haw4 (fun z hz => ?_)⟩).on HA2.out
          · rcases hmv k hk with h1 | h1
            · exact t.moved k h1
            · have := t.aw.size; exact .inr (by omega)
          · rcases hmv k hc with h1 | h1
            · exact t.apart k hk h1
            · have := t.fresh.lt k hk; omega
          · simp only [List.mem_cons, Option.mem_toList] at hz ⊢
            rcases hz with hz | hz
            · exact .inl (.inl hz)
            · rcases t.moved z hz with h1 | h1
              · exact .inl (.inr h1)
              · exact .inr h1
        clear hh hmv haw4
        go_wp2_with fail
        go_ret2
        exact .inl ⟨HYES.out, r, v4, rfl, HT4.out⟩
      · have KE := hidI (reach_c (off + n) H.out)
        rw [hk] at KE
        have KT : Hid (Calls Tryz.prog 86 #[.pointer (some ⟨g, 0, none⟩), .agg #[.int .i64 off, .int .i64 (off + n)]] w fun E w' => TakeOut w g v (freshP m (off, off + n)) (cutP m (off, off + n)) e E w') := take_c (off, off + n) H.out HI.out
        go_enter Tryz.func80, Tryz.ntmps80
        go_wp2_with fail
        refine KE.out.mono ?_
        rintro E w2 ⟨rfl, rfl⟩
        go_wp2_with fail
        refine KT.out.mono ?_
        rintro E w3 ⟨r, v3, rfl, ht⟩
        have HT := hidI ht
        clear ht
        go_wp2_with fail
        go_ret2
        exact .inl ⟨HYES.out, r, v3, rfl, HT.out⟩
  · have HNO : Hid (putOk m e off n more = false) := by
      show _ = _
      unfold putOk
      rw [show argOk off n = false from by rw [Bool.eq_false_iff]; intro hc; exact ha (arg_iff.1 hc)]
      rfl
    clear h
    by_cases b1 : off < 0
    · go_enter Tryz.func80, Tryz.ntmps80
      go_wp2_with fail
      go_ret2
      exact .inr ⟨HNO.out, rfl, Away.refl _ _⟩
    · by_cases b2 : n < 1
      · go_enter Tryz.func80, Tryz.ntmps80
        go_wp2_with fail
        go_ret2
        exact .inr ⟨HNO.out, rfl, Away.refl _ _⟩
      · have b3 : 65535 - off < n := by omega
        clear ha
        go_enter Tryz.func80, Tryz.ntmps80
        go_wp2_with fail
        go_ret2
        exact .inr ⟨HNO.out, rfl, Away.refl _ _⟩
end Go.Proofs.YtkccpidgeecemaaGreatDoor.H
