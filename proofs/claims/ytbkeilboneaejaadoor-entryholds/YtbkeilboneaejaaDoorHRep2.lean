/-
  slices.Replace.
-/
import Derived.Test.YtbkeilboneaejaaDoorHRep
namespace Go.Proofs.YtbkeilboneaejaaDoor.H
open Go.ChangeShapes Go.WideShapes Go.ChangeAt Go.RowKit
set_option linter.unusedVariables false
set_option linter.unusedSimpArgs false
set_option maxRecDepth 100000

theorem sl_l (g n cap k : Nat) (lo : Int) (hlo : lo = k) (hk : k ≤ n) : ∃ A, A = fromA g cap k ∧ ∀ wx, (Instr.sliceAt 63 (.slice (some ⟨g, 0, none⟩) n cap) (some (.int .i64 lo)) none none).run Tryd.prog wx = .ok (.slice A (n - k) (cap - k)) wx :=
  ⟨_, rfl, fun wx => slice_l _ _ n cap k _ (fromA_eq g cap k) hlo hk wx⟩
/-- What Replace leaves: a list that grew. -/
def RepOut (w : World) (v : Value) (r : List Sp) (E : Ending) (w' : World) : Prop := ∃ v', E = .returned v' ∧ Grew w w' v v' r
set_option maxHeartbeats 4000000 in
theorem rep_same (a : Option Addr) (n cap i : Nat) (l : List Sp) (ua : Option Addr) (uc : Nat) (w : World) (hl : Lst w (.slice a n cap) l) (hn : n ≤ cap) (hi : i ≤ n) (hlen : l.length = n) :
    Calls Tryd.prog 69 #[.slice a n cap, .int .i64 i, .int .i64 i, .slice ua 0 uc] w fun E w' => RepOut w (.slice a n cap) (newC l [] i i) E w' := by
  have HL : Hid (Lst w (.slice a n cap) l) := hl
  clear hl
  obtain ⟨A1, hA1⟩ : ∃ A1, A1 = if cap = i then a else a.map (·.add (i * 2)) := ⟨_, rfl⟩
  have hs := slice_lh a A1 n cap i 0 (i : Int) (i : Int) hA1 rfl (by omega) (by omega)
  clear hA1
  go_enter Tryd.func69, Tryd.ntmps69
  go_wp2_with fail
  refine (insert_c a n cap i ua uc _ hi hn).mono ?_
  rintro E _ ⟨rfl, rfl⟩
  go_wp2_with fail
  go_ret
  refine ⟨_, rfl, ?_, Moved.refl _ _, Away.refl _ _⟩
  have e : newC l [] i i = l := by unfold newC; simp
  rw [e]; exact HL.out
set_option maxHeartbeats 8000000 in
theorem rep_end (g n cap i k uc : Nat) (l x : List Sp) (ua : Option Addr) (w : World) (hl : Lst w (.slice (some ⟨g, 0, none⟩) n cap) l) (hu : Lst w (.slice ua k uc) x) (hne : ∀ p, ua = some p → p.block ≠ g) (hi : i < n) (hsm : n + k ≤ 1000000) :
    Calls Tryd.prog 69 #[.slice (some ⟨g, 0, none⟩) n cap, .int .i64 i, .int .i64 n, .slice ua k uc] w fun E w' => RepOut w (.slice (some ⟨g, 0, none⟩) n cap) (newC l x i n) E w' := by
  obtain ⟨cur, hb, hcm, hnc, ht, hln⟩ := hl.blk
  obtain ⟨hsrc, hnil, hxk, hsp⟩ := hu.src
  unfold maxLen at hcm
  obtain ⟨A1, hA1⟩ : ∃ A1, A1 = if cap = i then (some (⟨g, 0, none⟩ : Addr)) else (some (⟨g, 0, none⟩ : Addr)).map (·.add (i * 2)) := ⟨_, rfl⟩
  have hs1 := slice_lh _ A1 n cap i (n - i) (i : Int) (n : Int) hA1 rfl (by omega) (by omega)
  have hs2 := slice_h (some ⟨g, 0, none⟩) n cap i (i : Int) rfl (by omega)
  have hfl := newC_flat (x := x) (j := n) ht (Nat.le_of_lt hi)
  have hnl := newC_len (i := i) (j := n) hln hxk (Nat.le_of_lt hi) (Nat.le_refl _)
  clear hA1
  have hij : ¬ ((i : Int) = (n : Int)) := by omega
  by_cases hroom : i + k ≤ cap
  · obtain ⟨w2, hap, hb2, haw2⟩ := run_appB w 63 g cap i k uc cur (x.flatMap encS) ua hb (by rw [flat_two, hxk]) hroom hsrc hnil (flat_one x)
    by_cases hsh : i + k < n
    · obtain ⟨A3, hA3, hs3⟩ := sl_l g n cap (i + k) ((i : Int) + k) (by omega) (by omega)
      obtain ⟨w3, hcl, hb3, haw3⟩ := run_clearB w2 0 g cap (i + k) (n - (i + k)) (cap - (i + k)) _ A3 hA3 hb2 (by omega)
      have HF : Hid (RepOut w (.slice (some ⟨g, 0, none⟩) n cap) (newC l x i n) (.returned (.slice (some ⟨g, 0, none⟩) (i + k) cap)) w3) := by
        have hc1 : i * 2 + (x.flatMap encS).length ≤ cur.length := by have := hb.2; rw [flat_two, hxk]; omega
        have hc2 : (i + k) * 2 + (noughts (n - (i + k))).length ≤ (over cur i (x.flatMap encS)).length := by rw [over_len hc1, noughts_len]; have := hb.2; omega
        refine ⟨_, rfl, hb3.lst (by unfold maxLen; omega) (by rw [hnl]; omega) hroom ?_, Moved.refl _ _, ?_⟩
        · rw [hfl]
          have := fin_take (cur := cur) (fin := over (over cur i (x.flatMap encS)) (i + k) (noughts (n - (i + k)))) (xs := x.flatMap encS) (ys := []) (i := i) (k := k) (q := 0) (by rw [flat_two, hxk]) rfl (by have := hb.2; omega) (by rw [over_len hc2, over_len hc1]; have := hb.2; omega)
            (fun t ht => by rw [over_get hc2, if_pos (by omega), over_get hc1, if_pos ht])
            (fun t ht => by rw [over_get hc2, if_pos (by omega), over_get hc1, if_neg (by omega), if_pos (by rw [flat_two, hxk]; omega)]; congr 1; omega) (by simp)
          rw [Nat.add_zero] at this
          rw [this, List.drop_of_length_le (by simp; omega), List.append_nil]
        · exact (haw2.trans haw3).mono (fun z hz => by simpa [Value.ownBlock] using hz)
      have hlt1 : ((i : Int) + k) < n := by omega
      clear hb hb2 hb3 haw2 haw3 hl hu hsrc hnil hne hfl hnl ht hA3
      go_enter Tryd.func69, Tryd.ntmps69
      go_wp2_with (at_builtin; refine Lib.wpList_append_run _ rfl _ _ _ _ rfl _ _ rfl rfl _ _ hap ?_)
      go_wp2_with fail
      go_ret
      exact HF.out
    · have HF : Hid (RepOut w (.slice (some ⟨g, 0, none⟩) n cap) (newC l x i n) (.returned (.slice (some ⟨g, 0, none⟩) (i + k) cap)) w2) := by
        have hc1 : i * 2 + (x.flatMap encS).length ≤ cur.length := by have := hb.2; rw [flat_two, hxk]; omega
        refine ⟨_, rfl, hb2.lst (by unfold maxLen; omega) (by rw [hnl]; omega) hroom ?_, Moved.refl _ _, ?_⟩
        · rw [hfl]
          have := fin_take (cur := cur) (fin := over cur i (x.flatMap encS)) (xs := x.flatMap encS) (ys := []) (i := i) (k := k) (q := 0) (by rw [flat_two, hxk]) rfl (by have := hb.2; omega) (by rw [over_len hc1]; have := hb.2; omega)
            (fun t ht => by rw [over_get hc1, if_pos ht])
            (fun t ht => by rw [over_get hc1, if_neg (by omega), if_pos (by rw [flat_two, hxk]; omega)]; congr 1; omega) (by simp)
          rw [Nat.add_zero] at this
          rw [this, List.drop_of_length_le (by simp; omega), List.append_nil]
        · exact haw2.mono (fun z hz => by simpa [Value.ownBlock] using hz)
      have hlt1 : ¬ (((i : Int) + k) < n) := by omega
      clear hb hb2 haw2 hl hu hsrc hnil hne hfl hnl ht
      go_enter Tryd.func69, Tryd.ntmps69
      go_wp2_with (at_builtin; refine Lib.wpList_append_run _ rfl _ _ _ _ rfl _ _ rfl rfl _ _ hap ?_)
      go_wp2_with fail
      go_ret
      exact HF.out
  · have hx0 : x ≠ [] := fun e => by rw [e] at hxk; simp at hxk; omega
    obtain ⟨p, rfl⟩ : ∃ p, ua = some p := by
      rcases ua with _ | p
      · have := hnil rfl; omega
      · exact ⟨p, rfl⟩
    obtain ⟨i0, hi0, hz0, hz1, hz2⟩ := info_parts info50
    obtain ⟨v2, w2, hap, ho2, hg2⟩ := run_append_arg_grows (P := Tryd.prog) w 63 63 67 i0 _ 2 16 Tryd.underlying63 hi0 hz0 hz1 hz2 rfl (by decide) ⟨g, 0, none⟩ i cap (cur.take (i * 2)) (by have := hb.2; simp; omega)
      (fun j u hj => by
        rw [add_plain, Nat.zero_add, hb.cell]
        rw [List.getElem?_take] at hj
        split at hj
        · exact hj
        · simp at hj) p k uc (x.flatMap encS) (by rw [flat_two, hxk])
      (fun j u hj => by
        rcases hsrc with h | ⟨q, hq, h⟩
        · rw [h] at hj; simp at hj
        · simp at hq; subst hq; exact h j u hj) (by omega) (by unfold maxLen; omega) (by omega)
    have hl2 : Lst w2 v2 (newC l x i n) := by
      unfold Lst
      rw [hfl, hnl, List.drop_of_length_le (by simp; omega), List.append_nil, Nat.sub_self, Nat.add_zero]
      obtain ⟨o1, o2⟩ := ho2
      refine ⟨o1, ?_⟩
      rcases o2 with o2 | ⟨g2, c2, cur2, he, hg, r⟩
      · exact .inl o2
      · exact .inr ⟨g2, c2, cur2, he, Nat.zero_le _, r⟩
    have hnew : New w.heap.size v2 := fun t ht => (World.ownsRow.lt ho2 t ht).1
    have haw2 : Away [] w w2 := (Away.refl _ _).grown hg2 (by simp)
    have HF : Hid (RepOut w (.slice (some ⟨g, 0, none⟩) n cap) (newC l x i n) (.returned v2) w2) :=
      ⟨_, rfl, hl2, fun t ht => .inr (hnew t ht), haw2.mono (by simp)⟩
    obtain ⟨g2, c2, he2⟩ : ∃ g2 c2, v2 = .slice (some ⟨g2, 0, none⟩) (i + k) c2 := by
      rcases ho2.2 with ⟨_, o2⟩ | ⟨g2, c2, cur2, he, r⟩
      · omega
      · exact ⟨g2, c2, he⟩
    subst he2
    have hlt1 : ¬ (((i : Int) + k) < n) := by omega
    clear hb haw2 hl hu hsrc hnil hne hfl hnl ht hl2 hnew hg2 ho2 hz0 hz1 hz2 hi0
    go_enter Tryd.func69, Tryd.ntmps69
    go_wp2_with (at_builtin; refine Lib.wpList_append_run _ rfl _ _ _ _ rfl _ _ rfl rfl _ _ hap ?_)
    go_wp2_with fail
    go_ret
    exact HF.out
end Go.Proofs.YtbkeilboneaejaaDoor.H
