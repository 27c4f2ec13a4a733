/-
  slices.Replace, the three ways in the middle.
-/
import Derived.Test.YtbkeilboneaejaaDoorHRep2
namespace Go.Proofs.YtbkeilboneaejaaDoor.H
open Go.ChangeShapes Go.WideShapes Go.ChangeAt Go.RowKit
set_option linter.unusedVariables false
set_option linter.unusedSimpArgs false
set_option maxRecDepth 100000

theorem Blk.drewN {w : World} {g cap : Nat} {cur : List Value} (h : Blk w g cap cur) (q : Nat) : Blk (w.drewN q) g cap cur := h
theorem Src.drewN {w : World} {ad : Option Addr} {xs : List Value} (h : Src w ad xs) (q : Nat) : Src (w.drewN q) ad xs := h
set_option maxHeartbeats 8000000 in
theorem rep_grow (g n cap i j k q uc : Nat) (l x : List Sp) (ua : Option Addr) (w : World) (hl : Lst w (.slice (some ⟨g, 0, none⟩) n cap) l) (hu : Lst w (.slice ua k uc) x) (hne : ∀ p, ua = some p → p.block ≠ g) (hi : i < j) (hj : j < n) (hq : n - j = q) (hsm : n + k ≤ 1000000)
    (htot : cap < i + k + q) :
    Calls Tryd.prog 69 #[.slice (some ⟨g, 0, none⟩) n cap, .int .i64 i, .int .i64 j, .slice ua k uc] w fun E w' => RepOut w (.slice (some ⟨g, 0, none⟩) n cap) (newC l x i j) E w' := by
  obtain ⟨cur, hb, hcm, hnc, ht, hln⟩ := hl.blk
  obtain ⟨hsrc, hnil, hxk, hsp⟩ := hu.src
  unfold maxLen at hcm
  obtain ⟨A1, hA1⟩ : ∃ A1, A1 = if cap = i then (some (⟨g, 0, none⟩ : Addr)) else (some (⟨g, 0, none⟩ : Addr)).map (·.add (i * 2)) := ⟨_, rfl⟩
  have hs1 := slice_lh _ A1 n cap i (j - i) (i : Int) (j : Int) hA1 rfl (by omega) (by omega)
  have hs2 := slice_h (some ⟨g, 0, none⟩) n cap i (i : Int) rfl (by omega)
  obtain ⟨A2, hA2, hs3⟩ := sl_l g n cap j (j : Int) rfl (by omega)
  have hsy : Src w A2 ((cur.take (n * 2)).drop (j * 2)) := by rw [hA2]; exact hb.src hnc (by omega)
  have hy1 := one_sub ht j
  have hfl := newC_flat (x := x) (j := j) ht (show i ≤ n by omega)
  have hnl := newC_len (i := i) (j := j) hln hxk (by omega) (by omega)
  have hyl : ((cur.take (n * 2)).drop (j * 2)).length = q * 2 := by have := hb.2; simp; omega
  rw [hq] at hs3 hnl
  have hx1 := flat_one x
  have hxl : (x.flatMap encS).length = k * 2 := by rw [flat_two, hxk]
  have hA2s : ∀ p, A2 = some p → p.block = g ∧ p.spot = none := by
    intro p hp; rw [hA2] at hp; unfold fromA at hp
    split at hp <;> (simp at hp; subst hp; exact ⟨rfl, rfl⟩)
  have hA2n : A2 = none → q = 0 := by
    intro h; rw [hA2] at h; unfold fromA at h; split at h <;> simp at h
  generalize hys : (cur.take (n * 2)).drop (j * 2) = ys at *
  generalize hxs : x.flatMap encS = xs at *
  clear hA1
  have hij : ¬ ((i : Int) = (j : Int)) := by omega
  have hjn : ¬ ((j : Int) = (n : Int)) := by omega
  have t1 : (cap : Int) < (i : Int) + k + q := by omega
  have hgl : g < w.heap.size := lt_of_block hb.1
  obtain ⟨w2, cap2, hap, hb2, hc2, hcm2, haw2⟩ := run_makeB w.drew 63 g cap i (k + q) cur hb (by omega) (by omega) (by omega) (by omega)
  obtain ⟨G, hG⟩ : ∃ G, G = w.heap.size := ⟨_, rfl⟩
  rw [show w.drew.heap.size = G from hG.symm] at hap hb2
  unfold maxLen at hcm2
  obtain ⟨A3, hA3, hs4⟩ := sl_l G (i + (k + q)) cap2 i (i : Int) rfl (by omega)
  obtain ⟨A4, hA4, hs5⟩ := sl_l G (i + (k + q)) cap2 (i + k) ((i : Int) + k) (by omega) (by omega)
  rw [show i + (k + q) - i = k + q from by omega] at hs4
  rw [show i + (k + q) - (i + k) = q from by omega] at hs5
  have haw02 : Away [] w w2 := ⟨haw2.os, haw2.tape, haw2.output, haw2.size, haw2.block⟩
  obtain ⟨w3, hcp, hb3, haw3⟩ := run_copyB w2 3 G cap2 i (k + q) (cap2 - i) k uc _ xs A3 ua hA3 hb2 (by omega) hxl (by omega) (hsrc.away haw02 (fun p hp => ⟨by simp, hsp p hp⟩)) hnil hx1
  have hsy3 : Src w3 A2 ys := (hsy.away haw02 (fun p hp => ⟨by simp, (hA2s p hp).2⟩)).away haw3 (fun p hp => ⟨by rw [(hA2s p hp).1]; simp; omega, (hA2s p hp).2⟩)
  obtain ⟨w4, hcp2, hb4, haw4⟩ := run_copyB w3.drew 3 G cap2 (i + k) q (cap2 - (i + k)) q (cap - j) _ ys A4 A2 hA4 hb3 (by omega) hyl (by omega) hsy3 hA2n hy1
  have HF : Hid (RepOut w (.slice (some ⟨g, 0, none⟩) n cap) (newC l x i j) (.returned (.slice (some ⟨G, 0, none⟩) (i + (k + q)) cap2)) w4) := by
    have hcur : (cur.take (i * 2)).length = i * 2 := by have := hb.2; simp; omega
    have hc1 : i * 2 + xs.length ≤ (cur.take (i * 2) ++ noughts (cap2 - i)).length := by rw [List.length_append, hcur, noughts_len]; omega
    have hl1 : (cur.take (i * 2) ++ noughts (cap2 - i)).length = cap2 * 2 := hb2.2
    have hc3 : (i + k) * 2 + ys.length ≤ (over (cur.take (i * 2) ++ noughts (cap2 - i)) i xs).length := by rw [over_len hc1]; omega
    refine ⟨_, rfl, hb4.lst (by unfold maxLen; omega) (by rw [hnl]; omega) hc2 ?_, fun t ht => .inr ?_, ?_⟩
    · rw [hfl, show i + (k + q) = i + k + q from by omega]
      refine fin_take hxl hyl (by have := hb.2; omega) (by rw [over_len hc3, over_len hc1]; omega) (fun t ht => ?_) (fun t ht => ?_) (fun t ht => ?_)
      · rw [over_get hc3, if_pos (by omega), over_get hc1, if_pos ht, List.getElem?_append_left (by omega), get_take ht]
      · rw [over_get hc3, if_pos (by omega), over_get hc1, if_neg (by omega), if_pos (by omega)]; congr 1; omega
      · rw [over_get hc3, if_neg (by omega), if_pos (by omega)]; congr 1; omega
    · simp [Value.ownBlock] at ht; omega
    · exact (haw02.next haw3 (fun z hz => .inr (by simp at hz; omega))).next (⟨haw4.os, haw4.tape, haw4.output, haw4.size, haw4.block⟩ : Away [G] w3 w4) (fun z hz => .inr (by simp at hz; omega)) |>.mono (by simp)
  clear hb hb2 hb3 hb4 haw2 haw02 haw3 haw4 hl hu hsrc hsy hsy3 hnil hne hfl hnl ht hA2s hA2n hsp hys hxs hx1 hy1 hG hA2 hA3 hA4
  go_enter Tryd.func69, Tryd.ntmps69
  go_wp2_with fail
  go_region
  all_goals
    go_wp2_with (at_builtin; refine Lib.wpList_append_run _ rfl _ _ _ _ rfl _ _ rfl rfl _ _ (hap _ (by omega)) ?_)
    go_wp2_with fail
    go_region
    all_goals
      go_wp2_with fail
      go_ret
      exact HF.out
set_option maxHeartbeats 8000000 in
theorem rep_fit (g n cap i j k q uc : Nat) (l x : List Sp) (ua : Option Addr) (w : World) (hl : Lst w (.slice (some ⟨g, 0, none⟩) n cap) l) (hu : Lst w (.slice ua k uc) x) (hne : ∀ p, ua = some p → p.block ≠ g) (hi : i < j) (hj : j < n) (hq : n - j = q) (hsm : n + k ≤ 1000000)
    (htot : i + k + q ≤ cap) (hfit : i + k ≤ j) :
    Calls Tryd.prog 69 #[.slice (some ⟨g, 0, none⟩) n cap, .int .i64 i, .int .i64 j, .slice ua k uc] w fun E w' => RepOut w (.slice (some ⟨g, 0, none⟩) n cap) (newC l x i j) E w' := by
  obtain ⟨cur, hb, hcm, hnc, ht, hln⟩ := hl.blk
  obtain ⟨hsrc, hnil, hxk, hsp⟩ := hu.src
  unfold maxLen at hcm
  obtain ⟨A1, hA1⟩ : ∃ A1, A1 = if cap = i then (some (⟨g, 0, none⟩ : Addr)) else (some (⟨g, 0, none⟩ : Addr)).map (·.add (i * 2)) := ⟨_, rfl⟩
  have hs1 := slice_lh _ A1 n cap i (j - i) (i : Int) (j : Int) hA1 rfl (by omega) (by omega)
  have hs2 := slice_h (some ⟨g, 0, none⟩) n cap i (i : Int) rfl (by omega)
  obtain ⟨A2, hA2, hs3⟩ := sl_l g n cap j (j : Int) rfl (by omega)
  have hsy : Src w A2 ((cur.take (n * 2)).drop (j * 2)) := by rw [hA2]; exact hb.src hnc (by omega)
  have hy1 := one_sub ht j
  have hfl := newC_flat (x := x) (j := j) ht (show i ≤ n by omega)
  have hnl := newC_len (i := i) (j := j) hln hxk (by omega) (by omega)
  have hyl : ((cur.take (n * 2)).drop (j * 2)).length = q * 2 := by have := hb.2; simp; omega
  rw [hq] at hs3 hnl
  have hx1 := flat_one x
  have hxl : (x.flatMap encS).length = k * 2 := by rw [flat_two, hxk]
  have hA2s : ∀ p, A2 = some p → p.block = g ∧ p.spot = none := by
    intro p hp; rw [hA2] at hp; unfold fromA at hp
    split at hp <;> (simp at hp; subst hp; exact ⟨rfl, rfl⟩)
  have hA2n : A2 = none → q = 0 := by
    intro h; rw [hA2] at h; unfold fromA at h; split at h <;> simp at h
  generalize hys : (cur.take (n * 2)).drop (j * 2) = ys at *
  generalize hxs : x.flatMap encS = xs at *
  clear hA1
  have hij : ¬ ((i : Int) = (j : Int)) := by omega
  have hjn : ¬ ((j : Int) = (n : Int)) := by omega
  have t1 : ¬ ((cap : Int) < (i : Int) + k + q) := by omega
  have t2 : (i : Int) + k ≤ j := by omega
  have hs4 := slice_h (some ⟨g, 0, none⟩) n cap (i + k + q) ((i : Int) + k + q) (by omega) (by omega)
  obtain ⟨A3, hA3, hs5⟩ := sl_l g (i + k + q) cap i (i : Int) rfl (by omega)
  obtain ⟨A4, hA4, hs6⟩ := sl_l g (i + k + q) cap (i + k) ((i : Int) + k) (by omega) (by omega)
  obtain ⟨A5, hA5, hs7⟩ := sl_l g n cap (i + k + q) ((i : Int) + k + q) (by omega) (by omega)
  rw [show i + k + q - (i + k) = q from by omega] at hs6
  obtain ⟨w2, hcp, hb2, haw2⟩ := run_copyB w.drew 3 g cap i (i + k + q - i) (cap - i) k uc cur xs A3 ua hA3 hb (by omega) hxl (by omega) hsrc hnil hx1
  have hc1 : i * 2 + xs.length ≤ cur.length := by have := hb.2; omega
  have hyc : ∀ t, t < q * 2 → ys[t]? = cur[j * 2 + t]? := fun t ht => by rw [← hys, List.getElem?_drop, get_take (by omega)]
  have hsy2 : Src w2 A2 ys := by
    have := hb2.src (j := j) (n := n) hnc (by omega)
    rw [← hA2] at this
    have e : ((over cur i xs).take (n * 2)).drop (j * 2) = ys := by
      apply List.ext_getElem?
      intro t
      by_cases c : t < q * 2
      · rw [List.getElem?_drop, get_take (by omega), over_get hc1, if_neg (by omega), if_neg (by omega), hyc t c]
      · rw [List.getElem?_eq_none (by simp; omega), List.getElem?_eq_none (by omega)]
    rw [e] at this
    exact this
  obtain ⟨w3, hcp2, hb3, haw3⟩ := run_copyB w2.drew 3 g cap (i + k) q (cap - (i + k)) q (cap - j) _ ys A4 A2 hA4 hb2 (by omega) hyl (by omega) hsy2 hA2n hy1
  obtain ⟨w4, hcl, hb4, haw4⟩ := run_clearB w3 0 g cap (i + k + q) (n - (i + k + q)) (cap - (i + k + q)) _ A5 hA5 hb3 (by omega)
  have HF : Hid (RepOut w (.slice (some ⟨g, 0, none⟩) n cap) (newC l x i j) (.returned (.slice (some ⟨g, 0, none⟩) (i + k + q) cap)) w4) := by
    have hc3 : (i + k) * 2 + ys.length ≤ (over cur i xs).length := by rw [over_len hc1]; have := hb.2; omega
    have hc4 : (i + k + q) * 2 + (noughts (n - (i + k + q))).length ≤ (over (over cur i xs) (i + k) ys).length := by rw [over_len hc3, over_len hc1, noughts_len]; have := hb.2; omega
    refine ⟨_, rfl, hb4.lst (by unfold maxLen; omega) (by rw [hnl]) htot ?_, Moved.refl _ _, ?_⟩
    · rw [hfl]
      refine fin_take hxl hyl (by have := hb.2; omega) (by rw [over_len hc4, over_len hc3, over_len hc1]; have := hb.2; omega) (fun t ht => ?_) (fun t ht => ?_) (fun t ht => ?_)
      · rw [over_get hc4, if_pos (by omega), over_get hc3, if_pos (by omega), over_get hc1, if_pos ht]
      · rw [over_get hc4, if_pos (by omega), over_get hc3, if_pos (by omega), over_get hc1, if_neg (by omega), if_pos (by omega)]; congr 1; omega
      · rw [over_get hc4, if_pos (by omega), over_get hc3, if_neg (by omega), if_pos (by omega)]; congr 1; omega
    · exact (((⟨haw2.os, haw2.tape, haw2.output, haw2.size, haw2.block⟩ : Away [g] w w2).trans (⟨haw3.os, haw3.tape, haw3.output, haw3.size, haw3.block⟩ : Away [g] w2 w3)).trans haw4).mono (fun z hz => by simpa [Value.ownBlock] using hz)
  rw [show i + k + q - i = k + q from by omega] at hs5 hcp
  clear hb hb2 hb3 hb4 haw2 haw3 haw4 hl hu hsrc hsy hsy2 hnil hne hfl hnl ht hA2s hA2n hsp hys hxs hx1 hy1 hA2 hA3 hA4 hA5 hyc hc1
  go_enter Tryd.func69, Tryd.ntmps69
  go_wp2_with fail
  go_region
  all_goals
    go_wp2_with fail
    go_region
    all_goals
      go_wp2_with fail
      go_ret
      exact HF.out
set_option maxHeartbeats 8000000 in
theorem rep_wide (g n cap i j k q uc : Nat) (l x : List Sp) (ua : Option Addr) (w : World) (hl : Lst w (.slice (some ⟨g, 0, none⟩) n cap) l) (hu : Lst w (.slice ua k uc) x) (hne : ∀ p, ua = some p → p.block ≠ g) (hi : i < j) (hj : j < n) (hq : n - j = q) (hsm : n + k ≤ 1000000)
    (htot : i + k + q ≤ cap) (hfit : j < i + k) :
    Calls Tryd.prog 69 #[.slice (some ⟨g, 0, none⟩) n cap, .int .i64 i, .int .i64 j, .slice ua k uc] w fun E w' => RepOut w (.slice (some ⟨g, 0, none⟩) n cap) (newC l x i j) E w' := by
  obtain ⟨cur, hb, hcm, hnc, ht, hln⟩ := hl.blk
  obtain ⟨hsrc, hnil, hxk, hsp⟩ := hu.src
  unfold maxLen at hcm
  obtain ⟨A1, hA1⟩ : ∃ A1, A1 = if cap = i then (some (⟨g, 0, none⟩ : Addr)) else (some (⟨g, 0, none⟩ : Addr)).map (·.add (i * 2)) := ⟨_, rfl⟩
  have hs1 := slice_lh _ A1 n cap i (j - i) (i : Int) (j : Int) hA1 rfl (by omega) (by omega)
  have hs2 := slice_h (some ⟨g, 0, none⟩) n cap i (i : Int) rfl (by omega)
  obtain ⟨A2, hA2, hs3⟩ := sl_l g n cap j (j : Int) rfl (by omega)
  have hsy : Src w A2 ((cur.take (n * 2)).drop (j * 2)) := by rw [hA2]; exact hb.src hnc (by omega)
  have hy1 := one_sub ht j
  have hfl := newC_flat (x := x) (j := j) ht (show i ≤ n by omega)
  have hnl := newC_len (i := i) (j := j) hln hxk (by omega) (by omega)
  have hyl : ((cur.take (n * 2)).drop (j * 2)).length = q * 2 := by have := hb.2; simp; omega
  rw [hq] at hs3 hnl
  have hx1 := flat_one x
  have hxl : (x.flatMap encS).length = k * 2 := by rw [flat_two, hxk]
  have hA2s : ∀ p, A2 = some p → p.block = g ∧ p.spot = none := by
    intro p hp; rw [hA2] at hp; unfold fromA at hp
    split at hp <;> (simp at hp; subst hp; exact ⟨rfl, rfl⟩)
  have hA2n : A2 = none → q = 0 := by
    intro h; rw [hA2] at h; unfold fromA at h; split at h <;> simp at h
  generalize hys : (cur.take (n * 2)).drop (j * 2) = ys at *
  generalize hxs : x.flatMap encS = xs at *
  clear hA1
  have hij : ¬ ((i : Int) = (j : Int)) := by omega
  have hjn : ¬ ((j : Int) = (n : Int)) := by omega
  have t1 : ¬ ((cap : Int) < (i : Int) + k + q) := by omega
  have t2 : ¬ ((i : Int) + k ≤ j) := by omega
  have hs4 := slice_h (some ⟨g, 0, none⟩) n cap (i + k + q) ((i : Int) + k + q) (by omega) (by omega)
  obtain ⟨A3, hA3, hs5⟩ := sl_l g (i + k + q) cap i (i : Int) rfl (by omega)
  obtain ⟨A4, hA4, hs6⟩ := sl_l g (i + k + q) cap (i + k) ((i : Int) + k) (by omega) (by omega)
  rw [show i + k + q - (i + k) = q from by omega] at hs6
  rw [show i + k + q - i = k + q from by omega] at hs5
  obtain ⟨g', rfl, hb', hg'⟩ : ∃ g', ua = some ⟨g', 0, none⟩ ∧ (∃ cur', Blk w g' uc cur') ∧ uc ≠ 0 := by
    rcases hu.2 with ⟨_, h3⟩ | ⟨g', cap', cur', he, hg, hh, hn, hc, hs, ht'⟩
    · omega
    · simp only [Value.slice.injEq] at he
      obtain ⟨rfl, h1, rfl⟩ := he
      exact ⟨g', rfl, ⟨cur'.toList, by simpa using hh, by simpa using hs⟩, by omega⟩
  obtain ⟨cur', hb'⟩ := hb'
  have hgg : g ≠ g' := fun e => hne _ rfl e.symm
  have hov := overlaps_c w.drew g cap (i + k) q (cap - (i + k)) cur cur' A4 hA4 hb g' uc k hb' hgg hg'
  have hc1 : (i + k) * 2 + ys.length ≤ cur.length := by have := hb.2; omega
  obtain ⟨w2, hcp, hb2, haw2⟩ := run_copyB w.drew.drew 3 g cap (i + k) q (cap - (i + k)) q (cap - j) cur ys A4 A2 hA4 hb (by omega) hyl (by omega) hsy hA2n hy1
  have haw02 : Away [g] w w2 := ⟨haw2.os, haw2.tape, haw2.output, haw2.size, haw2.block⟩
  obtain ⟨w3, hcp2, hb3, haw3⟩ := run_copyB w2 3 g cap i (k + q) (cap - i) k uc _ xs A3 _ hA3 hb2 (by omega) hxl (by omega) (hsrc.away haw02 (fun p hp => ⟨by simp at hp; subst hp; simp; omega, hsp p hp⟩)) hnil hx1
  have HF : Hid (RepOut w (.slice (some ⟨g, 0, none⟩) n cap) (newC l x i j) (.returned (.slice (some ⟨g, 0, none⟩) (i + k + q) cap)) w3) := by
    have hc3 : i * 2 + xs.length ≤ (over cur (i + k) ys).length := by rw [over_len hc1]; have := hb.2; omega
    refine ⟨_, rfl, hb3.lst (by unfold maxLen; omega) (by rw [hnl]) htot ?_, Moved.refl _ _, ?_⟩
    · rw [hfl]
      refine fin_take hxl hyl (by have := hb.2; omega) (by rw [over_len hc3, over_len hc1]; have := hb.2; omega) (fun t ht => ?_) (fun t ht => ?_) (fun t ht => ?_)
      · rw [over_get hc3, if_pos ht, over_get hc1, if_pos (by omega)]
      · rw [over_get hc3, if_neg (by omega), if_pos (by omega)]; congr 1; omega
      · rw [over_get hc3, if_neg (by omega), if_neg (by omega), over_get hc1, if_neg (by omega), if_pos (by omega)]; congr 1; omega
    · exact (haw02.trans haw3).mono (fun z hz => by simpa [Value.ownBlock] using hz)
  clear hb hb2 hb3 haw2 haw02 haw3 hl hu hsrc hsy hnil hne hfl hnl ht hA2s hA2n hsp hys hxs hx1 hy1 hA2 hA3 hA4 hc1 hb'
  go_enter Tryd.func69, Tryd.ntmps69
  go_wp2_with fail
  go_region
  all_goals
    go_wp2_with fail
    go_region
    all_goals
      go_wp2_with fail
      go_ret
      exact HF.out
end Go.Proofs.YtbkeilboneaejaaDoor.H
