/-
  joined.
-/
import Derived.Test.YtckiiidigajhpaaFn4
namespace Go.Proofs.Ytckiiidigajhpaa
open Go.ChangeShapes Go.WideShapes Go.ChangeAt Go.RowKit
set_option linter.unusedVariables false

theorem Is.ok {x : Sp} (h : Is x) : OkS x := by unfold Is at h; unfold OkS I64; omega
theorem fold_snoc {l : List Sp} {k : Nat} {x : Sp} (h : l[k]? = some x) : (l.take (k + 1)).foldl stepJ [] = stepJ ((l.take k).foldl stepJ []) x := by
  rw [take_snoc h, List.foldl_append]; rfl
theorem flat_set (o : List Sp) (p : Sp) (u : Int) : ((o ++ [p]).flatMap encS).set (o.length * 2 + 1) (.int .i64 u) = (o ++ [(p.1, u)]).flatMap encS := by
  rw [flat_snoc, flat_snoc, List.set_append_right _ _ (by rw [flat_two]; omega), flat_two]
  rw [show o.length * 2 + 1 - o.length * 2 = 1 from by omega]; rfl
theorem Lst.setTo {g n cap : Nat} {w : World} {o : List Sp} {p : Sp} (h : Lst w (.slice (some ⟨g, 0, none⟩) n cap) (o ++ [p])) (hn : n = o.length + 1) (u : Int) :
    Lst (w.setCell ⟨g, o.length * 2 + 1, none⟩ (.int .i64 u)) (.slice (some ⟨g, 0, none⟩) n cap) (o ++ [(p.1, u)]) := by
  have h' := h
  unfold Lst at h' ⊢
  rw [← flat_set]
  subst hn
  rw [List.length_append] at h' ⊢
  exact (World.ownsRow.stored h' (o.length * 2 + 1) (.int .i64 u)).1
theorem Lst.free {g n cap : Nat} {w : World} {l : List Sp} (h : Lst w (.slice (some ⟨g, 0, none⟩) n cap) l) (hn : n = l.length) (i : Nat) : w.frozen? ⟨g, i, none⟩ = false := by
  subst hn; exact World.ownsRow.frozenAt h i
set_option maxHeartbeats 4000000 in
theorem joined_c (a : Option Addr) (l : List Sp) (n cap : Nat) (w : World) (hn : l.length = n) (hr : Row w a l) (hi : ∀ s ∈ l, Is s) :
    Calls Try.prog 36 #[.slice a n cap] w fun E w' => ∃ v, E = .returned v ∧ Mk w w' v (joinP l) := by
  subst hn
  have hlen := hr.1
  have HR : Hid (Row w a l) := hr
  have HI : Hid (∀ s ∈ l, Is s) := hi
  clear hr hi
  go_enter Try.func36, Try.ntmps36
  go_wp2_with fail
  go_loopw [3, 9] (fun v i wr => ∃ (k : Nat) (m : List Sp), k ≤ l.length ∧ i = .int .i64 k ∧ Mk w wr v m ∧ m.length ≤ k ∧ (∀ s ∈ m, Is s) ∧ m = (l.take k).foldl stepJ []) (fun _ i _ => l.length - (intOf i).toNat)
  case atStart => exact ⟨0, [], by omega, rfl, Mk.nil _, by simp, by simp, rfl⟩
  case round =>
    obtain ⟨k, m, hk, rfl, hm, hml, hmi, hmq⟩ := hrel
    have HQ : Hid (m = (l.take k).foldl stepJ []) := hmq
    have HMI : Hid (∀ s ∈ m, Is s) := hmi
    have HM : Hid (Mk w wr u3 m) := hm
    clear hmq hmi hm
    by_cases hlt : k < l.length
    · obtain ⟨x, hx, hxm⟩ := get_of hlt
      have hxi := HI.out x hxm
      obtain ⟨b, off, rfl, c1, c2, -⟩ := (HR.out.on HM.out.2.2).at hx
      have HT : Hid ((l.take (k + 1)).foldl stepJ [] = stepJ m x) := by show _ = _; rw [fold_snoc hx, ← HQ.out]
      have HXI : Hid (Is x) := hxi
      clear hx hxm hxi
      obtain ⟨x1, x2⟩ := x
      simp only at c1 c2
      have HM0 : Hid (Mk w (wr.alloc (.cells #[.int .i64 x1, .int .i64 x2] 29)) u3 m) := HM.out.on ((Away.refl [] wr).alloc (.cells #[.int .i64 x1, .int .i64 x2] 29))
      have hs2 := HM.out.2.2.size
      rcases nil_or_snoc m with rfl | ⟨o, p, rfl⟩
      · obtain ⟨a', cap', rfl, -⟩ := HM.out.1.row (by simp) (by simp)
        go_wp2_with fail
        go_quiet (fail)
        have z1 : ((wr.alloc (.cells #[.int .i64 x1, .int .i64 x2] 29)).drewN nq).cell? ⟨wr.heap.size, 0, none⟩ = some (.int .i64 x1) := ((Away.refl [] _).drewN nq).cell (by simp) (by simp)
        have z2 : ((wr.alloc (.cells #[.int .i64 x1, .int .i64 x2] 29)).drewN nq).cell? ⟨wr.heap.size, 1, none⟩ = some (.int .i64 x2) := ((Away.refl [] _).drewN nq).cell (by simp) (by simp)
        have HM1 := hidI (HM0.out.on ((Away.refl [] _).drewN nq))
        generalize (wr.alloc (.cells #[.int .i64 x1, .int .i64 x2] 29)).drewN nq = W at *
        go_wp2_with (at_builtin; refine wpList_app2 rfl _ _ rfl _ [] rfl (by exact HM1.out.1.on ((Away.refl [] _).alloc _)) ⟨_, 0, none⟩ 1 rfl (x1, x2) (by rw [World.cell?_alloc_at (hn := rfl)]; rfl) (by rw [add_plain, World.cell?_alloc_at (hn := rfl)]; rfl) (by simp) ?_)
        intro v' w2 hown2 hgr hmov
        have hM2 : Mk w w2 v' [(x1, x2)] := ⟨hown2, HM1.out.2.1.moved hmov (by have := HM1.out.2.2.size; simp; omega), (HM1.out.2.2.alloc _).step hgr HM1.out.2.1⟩
        clear hgr hmov hown2
        go_wp2_with fail
        go_roundw
        case rel => exact ⟨k + 1, _, by omega, by go_num, hM2, by simp, by simp; exact HXI.out, by rw [HT.out, stepJ_nil]⟩
        case measure => simp [intOf]; omega
      · obtain ⟨a', cap', rfl, hcap, hnil, hrow, hown⟩ := HM.out.1.row (by omega) (fun s hs => (HMI.out s hs).ok)
        obtain ⟨g, og, rfl, c3, c4, -⟩ := hrow.at (k := o.length) (x := p) (by simp)
        obtain ⟨e1, e2, -⟩ := hown _ rfl
        simp only at e2
        subst e2
        simp only [List.length_append, List.length_cons, List.length_nil, Nat.zero_add] at *
        obtain ⟨p1, p2⟩ := p
        simp only at c3 c4
        have hpi := HMI.out (p1, p2) (by simp)
        have hoi := HMI.out
        have HPI : Hid (Is (p1, p2)) := hpi
        have HOI : Hid (∀ s ∈ o, Is s) := fun s hs => hoi s (by simp [hs])
        have HFR : Hid (∀ i, wr.frozen? ⟨g, i, none⟩ = false) := HM.out.1.free (by simp)
        clear hpi hoi hrow hown hnil
        have hgl : g < wr.heap.size := HM.out.1.lt g e1
        clear e1
        have z3 : (wr.alloc (.cells #[.int .i64 x1, .int .i64 x2] 29)).cell? ⟨g, o.length * 2, none⟩ = some (.int .i64 p1) := ((Away.refl [] wr).alloc _).cell (by simp) (by simpa using c3)
        have z4 : (wr.alloc (.cells #[.int .i64 x1, .int .i64 x2] 29)).cell? ⟨g, o.length * 2 + 1, none⟩ = some (.int .i64 p2) := ((Away.refl [] wr).alloc _).cell (by simp) (by simpa using c4)
        have g0 : decide ((o.length : Int) < 0) = false := by simp
        have t2 : 0 ≤ (o.length : Int) := by omega
        have t3 : (o.length : Int) < (o.length : Int) + 1 := by omega
        have t4 : ((o.length : Int)).toNat = o.length := by omega
        by_cases hc : p2 < x1
        · have d1 : decide (p2 < x1) = true := by simp [hc]
          have HC : Hid (stepJ (o ++ [(p1, p2)]) (x1, x2) = o ++ [(p1, p2)] ++ [(x1, x2)]) := by show _ = _; rw [stepJ_snoc, if_pos hc]
          go_wp2_with fail
          go_quiet (fail)
          have z1 : ((wr.alloc (.cells #[.int .i64 x1, .int .i64 x2] 29)).drewN nq).cell? ⟨wr.heap.size, 0, none⟩ = some (.int .i64 x1) := ((Away.refl [] _).drewN nq).cell (by simp) (by simp)
          have z2 : ((wr.alloc (.cells #[.int .i64 x1, .int .i64 x2] 29)).drewN nq).cell? ⟨wr.heap.size, 1, none⟩ = some (.int .i64 x2) := ((Away.refl [] _).drewN nq).cell (by simp) (by simp)
          replace z3 := ((Away.refl [] (wr.alloc (.cells #[.int .i64 x1, .int .i64 x2] 29))).drewN nq).cell (by simp) z3
          replace z4 := ((Away.refl [] (wr.alloc (.cells #[.int .i64 x1, .int .i64 x2] 29))).drewN nq).cell (by simp) z4
          have HM1 := hidI (HM0.out.on ((Away.refl [] _).drewN nq))
          generalize (wr.alloc (.cells #[.int .i64 x1, .int .i64 x2] 29)).drewN nq = W at *
          go_wp2_with (at_builtin; refine wpList_app2 rfl _ _ rfl _ (o ++ [(p1, p2)]) rfl (by exact HM1.out.1.on ((Away.refl [] _).alloc _)) ⟨_, 0, none⟩ 1 rfl (x1, x2) (by rw [World.cell?_alloc_at (hn := rfl)]; rfl) (by rw [add_plain, World.cell?_alloc_at (hn := rfl)]; rfl) (by simp; omega) ?_)
          intro v' w2 hown2 hgr hmov
          have hM2 : Mk w w2 v' (o ++ [(p1, p2)] ++ [(x1, x2)]) := ⟨by simpa using hown2, HM1.out.2.1.moved hmov (by have := HM1.out.2.2.size; simp; omega), (HM1.out.2.2.alloc _).step hgr HM1.out.2.1⟩
          clear hgr hmov hown2
          go_wp2_with fail
          go_roundw
          case rel => exact ⟨k + 1, _, by omega, by go_num, hM2, by simp; omega, fun s hs => by
            rcases List.mem_append.1 hs with hs | hs
            · rcases List.mem_append.1 hs with hs | hs
              · exact HOI.out s hs
              · simp at hs; rw [hs]; exact HPI.out
            · simp at hs; rw [hs]; exact HXI.out, by rw [HT.out, HC.out]⟩
          case measure => simp [intOf]; omega
        · have d1 : decide (p2 < x1) = false := by simp [hc]
          have HC : Hid (stepJ (o ++ [(p1, p2)]) (x1, x2) = o ++ [(p1, max p2 x2)]) := by show _ = _; rw [stepJ_snoc, if_neg hc]
          rcases (show (max p2 x2 = p2 ∧ x2 ≤ p2) ∨ (max p2 x2 = x2 ∧ p2 < x2) by omega) with ⟨e1, o1⟩ | ⟨e1, o1⟩
          · go_wp2_with fail
            go_quiet (fail)
            have z1 : ((wr.alloc (.cells #[.int .i64 x1, .int .i64 x2] 29)).drewN nq).cell? ⟨wr.heap.size, 0, none⟩ = some (.int .i64 x1) := ((Away.refl [] _).drewN nq).cell (by simp) (by simp)
            have z2 : ((wr.alloc (.cells #[.int .i64 x1, .int .i64 x2] 29)).drewN nq).cell? ⟨wr.heap.size, 1, none⟩ = some (.int .i64 x2) := ((Away.refl [] _).drewN nq).cell (by simp) (by simp)
            replace z3 := ((Away.refl [] (wr.alloc (.cells #[.int .i64 x1, .int .i64 x2] 29))).drewN nq).cell (by simp) z3
            replace z4 := ((Away.refl [] (wr.alloc (.cells #[.int .i64 x1, .int .i64 x2] 29))).drewN nq).cell (by simp) z4
            have HM1 := hidI (HM0.out.on ((Away.refl [] _).drewN nq))
            generalize (wr.alloc (.cells #[.int .i64 x1, .int .i64 x2] 29)).drewN nq = W at *
            have hfr : W.frozen? ⟨g, o.length * 2 + 1, none⟩ = false := HM1.out.1.free (by simp) _
            have HGN : Hid (w.heap.size ≤ g) := HM1.out.2.1 g rfl
            go_wp2_with fail
            go_region
            all_goals (go_wp2_with fail; go_roundw)
            case rel => exact ⟨k + 1, o ++ [(p1, p2)], by omega, by go_num, ⟨(HM1.out.1.on ((Away.refl [] W).drewN 1)).setTo rfl p2, HM1.out.2.1, (HM1.out.2.2.drewN 1).setCell (.inr HGN.out) _⟩, by simp; omega, fun s hs => by
              rcases List.mem_append.1 hs with hs | hs
              · exact HOI.out s hs
              · simp at hs; rw [hs]
                have q1 := HPI.out
                have q2 := HXI.out
                unfold Is at q1 q2 ⊢
                simp only at q1 q2 ⊢
                omega, by rw [HT.out, HC.out, e1]⟩
            case measure => simp [intOf]; omega
          · go_wp2_with fail
            go_quiet (fail)
            have z1 : ((wr.alloc (.cells #[.int .i64 x1, .int .i64 x2] 29)).drewN nq).cell? ⟨wr.heap.size, 0, none⟩ = some (.int .i64 x1) := ((Away.refl [] _).drewN nq).cell (by simp) (by simp)
            have z2 : ((wr.alloc (.cells #[.int .i64 x1, .int .i64 x2] 29)).drewN nq).cell? ⟨wr.heap.size, 1, none⟩ = some (.int .i64 x2) := ((Away.refl [] _).drewN nq).cell (by simp) (by simp)
            replace z3 := ((Away.refl [] (wr.alloc (.cells #[.int .i64 x1, .int .i64 x2] 29))).drewN nq).cell (by simp) z3
            replace z4 := ((Away.refl [] (wr.alloc (.cells #[.int .i64 x1, .int .i64 x2] 29))).drewN nq).cell (by simp) z4
            have HM1 := hidI (HM0.out.on ((Away.refl [] _).drewN nq))
            generalize (wr.alloc (.cells #[.int .i64 x1, .int .i64 x2] 29)).drewN nq = W at *
            have hfr : W.frozen? ⟨g, o.length * 2 + 1, none⟩ = false := HM1.out.1.free (by simp) _
            have HGN : Hid (w.heap.size ≤ g) := HM1.out.2.1 g rfl
            go_wp2_with fail
            go_region
            all_goals (go_wp2_with fail; go_roundw)
            case rel => exact ⟨k + 1, o ++ [(p1, x2)], by omega, by go_num, ⟨(HM1.out.1.on ((Away.refl [] W).drewN 1)).setTo rfl x2, HM1.out.2.1, (HM1.out.2.2.drewN 1).setCell (.inr HGN.out) _⟩, by simp; omega, fun s hs => by
              rcases List.mem_append.1 hs with hs | hs
              · exact HOI.out s hs
              · simp at hs; rw [hs]
                have q1 := HPI.out
                have q2 := HXI.out
                unfold Is at q1 q2 ⊢
                simp only at q1 q2 ⊢
                omega, by rw [HT.out, HC.out, e1]⟩
            case measure => simp [intOf]; omega
    · go_wp2_with fail
      go_ret
      refine ⟨_, rfl, ?_⟩
      have := HM.out
      rw [HQ.out, List.take_of_length_le (by omega)] at this
      exact this
#print axioms joined_c
end Go.Proofs.Ytckiiidigajhpaa
