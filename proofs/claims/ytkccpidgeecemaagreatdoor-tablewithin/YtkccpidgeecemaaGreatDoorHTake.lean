/-
  Replace as one, take, endAt.
-/
import Derived.Test.YtkccpidgeecemaaGreatDoorHHls
namespace Go.Proofs.YtkccpidgeecemaaGreatDoor.H
open Go.ChangeShapes Go.WideShapes Go.ChangeAt Go.RowKit
set_option linter.unusedVariables false
set_option linter.unusedSimpArgs false

theorem replace_c (a : Option Addr) (n cap i j k uc : Nat) (l x : List Sp) (ua : Option Addr) (w : World) (hl : Lst w (.slice a n cap) l) (hu : Lst w (.slice ua k uc) x) (hne : ∀ p p', ua = some p → a = some p' → p.block ≠ p'.block) (hi : i ≤ j) (hj : j ≤ n) (hsm : n + k ≤ 1000000)
    (hx : i = j → x = []) :
    Calls Tryz.prog 99 #[.slice a n cap, .int .i64 i, .int .i64 j, .slice ua k uc] w fun E w' => RepOut w (.slice a n cap) (newC l x i j) E w' := by
  have hk := hu.src.2.2.1
  have hnc : n ≤ cap ∧ l.length = n ∧ (0 < n → ∃ g, a = some ⟨g, 0, none⟩) := by
    rcases hl.2 with ⟨h2, h3⟩ | ⟨g', cap', cur, he, hg, hh, hn, hc, hs, ht'⟩
    · simp only [Value.slice.injEq] at h2
      obtain ⟨rfl, rfl, rfl⟩ := h2
      exact ⟨Nat.le_refl _, by simpa using h3, by simp⟩
    · simp only [Value.slice.injEq] at he
      obtain ⟨rfl, rfl, rfl⟩ := he
      exact ⟨hn, rfl, fun _ => ⟨g', rfl⟩⟩
  obtain ⟨hnc, hln, hg⟩ := hnc
  rcases Nat.lt_or_ge i j with h1 | h1
  · obtain ⟨g, rfl⟩ := hg (by omega)
    have hne' : ∀ p, ua = some p → p.block ≠ g := fun p hp => hne p _ hp rfl
    rcases Nat.lt_or_ge j n with h2 | h2
    · rcases Nat.lt_or_ge cap (i + k + (n - j)) with h3 | h3
      · exact rep_grow g n cap i j k (n - j) uc l x ua w hl hu hne' h1 h2 rfl hsm h3
      · rcases Nat.lt_or_ge j (i + k) with h4 | h4
        · exact rep_wide g n cap i j k (n - j) uc l x ua w hl hu hne' h1 h2 rfl hsm h3 h4
        · exact rep_fit g n cap i j k (n - j) uc l x ua w hl hu hne' h1 h2 rfl hsm h3 h4
    · obtain rfl : j = n := by omega
      exact rep_end g j cap i k uc l x ua w hl hu hne' h1 hsm
  · obtain rfl : i = j := by omega
    obtain rfl := hx rfl
    obtain rfl : k = 0 := by simpa using hk.symm
    exact rep_same a n cap i l ua uc w hl hnc hj hln
/-- What take leaves. -/
structure Took (w w' : World) (g : Nat) (v r v' : Value) (f c : List Sp) (e : Int) : Prop where
  fresh : Lst w' r f
  new : New w.heap.size r
  hl : Hl w' g v' c e
  moved : Moved w v v'
  apart : ∀ k, r.ownBlock = some k → v'.ownBlock ≠ some k
  aw : Away (g :: v.ownBlock.toList) w w'
def TakeOut (w : World) (g : Nat) (v : Value) (f c : List Sp) (e : Int) (E : Ending) (w' : World) : Prop := ∃ r v', E = .returned r ∧ Took w w' g v r v' f c e
set_option maxHeartbeats 4000000 in
theorem take_c {w : World} {g : Nat} {v : Value} {m : List Sp} {e : Int} (s : Sp) (h : Hl w g v m e) (hs : Is s) :
    Calls Tryz.prog 86 #[.pointer (some ⟨g, 0, none⟩), valS s] w fun E w' => TakeOut w g v (freshP m s) (cutP m s) e E w' := by
  obtain ⟨a, cap, hv, hcap, hnone, hrow, hab⟩ := h.slice
  have hm := h.right
  have hsh := right_short hm
  have hg := lt_of_block h.blk
  have hvl := h.lst.lt
  have H := hidI h
  have HS := hidI hs
  have HM := hidI hm
  obtain ⟨s1, s2⟩ := s
  simp only [valS]
  obtain ⟨n, hn⟩ : ∃ n, n = m.length := ⟨_, rfl⟩
  rw [← hn] at hv hcap hsh
  have HN := hidI hn
  subst hv
  have HNone := hidI hnone
  have HAB := hidI hab
  have HVL := hidI hvl
  clear h hrow hn hm hs hnone hab hvl
  go_enter Tryz.func86, Tryz.ntmps86
  go_wp2_with fail
  obtain ⟨w1, hw1⟩ : ∃ w1, w1 = w.alloc (.cells #[.int .i64 s1, .int .i64 s2] 112) := ⟨_, rfl⟩
  have HA1 : Hid (Away [] w w1) := by show Away _ _ _; rw [hw1]; exact (Away.refl _ _).alloc _
  have K1 : w1.cell? ⟨w.heap.size, 0, none⟩ = some (.int .i64 s1) := by rw [hw1]; simp
  have K2 : w1.cell? ⟨w.heap.size, 1, none⟩ = some (.int .i64 s2) := by rw [hw1]; simp
  rw [← hw1]
  have HSZ : Hid (w1.heap.size = w.heap.size + 1) := by show _ = _; rw [hw1]; simp
  clear hw1
  refine (met_c (s1, s2) (H.out.on HA1.out) HS.out).mono ?_
  rintro E w2 ⟨i, j, rfl, hmet, haw2⟩
  have hij := hmet.le
  have hjn : j ≤ n := by rw [HN.out]; exact hmet.len
  have HMET := hidI hmet
  have HA2 := hidI (HA1.out.trans haw2)
  have k1 := haw2.cell (by simp) K1
  have k2 := haw2.cell (by simp) K2
  have H2 := hidI (H.out.on HA2.out)
  have c2 := (H.out.on HA2.out).c0
  clear hmet haw2 K1 K2
  obtain ⟨A1, hA1⟩ : ∃ A1, A1 = if cap = i then a else a.map (·.add (i * 2)) := ⟨_, rfl⟩
  have hsl := slice_lh a A1 n cap i (j - i) (i : Int) (j : Int) hA1 rfl (by omega) (by omega)
  have HRow : Hid (Row w2 A1 ((m.drop i).take (j - i))) := by
    obtain ⟨a', cap', he, -, -, hr, -⟩ := H2.out.slice
    simp only [Value.slice.injEq] at he
    obtain ⟨rfl, -, rfl⟩ := he
    rw [hA1]
    exact (hr.tail i cap (by rw [← HN.out]; exact hcap) (by rw [← HN.out]; omega)).head (j - i)
  have HL : Hid (((m.drop i).take (j - i)).length = j - i) := by show _ = _; simp; rw [← HN.out]; omega
  have HXE : Hid (i = j → (m.drop i).take (j - i) = []) := fun e => by subst e; simp
  have HMR : Hid (rightP ((m.drop i).take (j - i)) = true) := HMET.out.mid HM.out
  have HF : Hid (freshP m (s1, s2) = ((m.drop i).take (j - i)).map (clipS (s1, s2))) := HMET.out.fresh HM.out HS.out
  have HC : Hid (cutP m (s1, s2) = newC m (cutP ((m.drop i).take (j - i)) (s1, s2)) i j) := HMET.out.cut HM.out HS.out
  generalize (m.drop i).take (j - i) = M at *
  clear hA1
  go_wp2_with fail
  refine (clipped_c A1 M (s1, s2) (j - i) _ _ HL.out HRow.out).mono ?_
  rintro E w3 ⟨r, rfl, hmk3⟩
  have HA3 := hidI (HA2.out.trans hmk3.2.2)
  have HMK := hidI hmk3
  have q1 := hmk3.2.2.cell (by simp) k1
  have q2 := hmk3.2.2.cell (by simp) k2
  have HRow3 := hidI (HRow.out.on hmk3.2.2)
  have H3 := hidI (H.out.on HA3.out)
  have c3 := (H.out.on HA3.out).c0
  clear hmk3 k1 k2 c2
  go_wp2_with fail
  refine (cut_c A1 M (s1, s2) (j - i) _ _ HL.out HRow3.out).mono ?_
  intro E w4 hans
  change Ans w3 (rightP M && isB (s1, s2)) (cutP M (s1, s2)) E w4 at hans
  rw [HMR.out, isB_iff.2 HS.out] at hans
  unfold Ans at hans
  rw [if_pos (by rfl)] at hans
  obtain ⟨u, rfl, hmk4⟩ := hans
  have HA4 := hidI (HA3.out.trans hmk4.2.2)
  have hcl := cut_len M (s1, s2)
  rw [HL.out] at hcl
  have hcr := (cut_of HMR.out HS.out).right
  obtain ⟨ua, uc, hu, -, -, -, hub⟩ := hmk4.1.row (by omega) (fun x hx => is_ok (right_is hcr x hx))
  obtain ⟨k, hk⟩ : ∃ k, k = (cutP M (s1, s2)).length := ⟨_, rfl⟩
  rw [← hk] at hu hcl
  subst hu
  have H4 := hidI (H.out.on HA4.out)
  have c4 := (H.out.on HA4.out).c0
  have f4 := (H.out.on HA4.out).free 0
  have KR : Hid (Calls Tryz.prog 99 #[.slice a n cap, .int .i64 i, .int .i64 j, .slice ua k uc] w4 fun E w' => RepOut w4 (.slice a n cap) (cutP m (s1, s2)) E w') := by
    show Calls _ _ _ _ _
    rw [HC.out]
    refine replace_c a n cap i j k uc m _ ua w4 H4.out.lst hmk4.1 (fun p p' hp hp' => ?_) hij hjn (by omega) (fun e => by rw [HXE.out e]; rfl)
    have b1 := (hub p hp).1
    have b2 := (HAB.out p' hp').1
    have l1 := hmk4.2.1 _ b1
    have l2 := HVL.out _ b2
    have l3 := HA3.out.size
    omega
  have HR4 := hidI (HMK.out.on hmk4.2.2)
  clear hmk4 hk hub hcr hcl c3 q1 q2 HRow HRow3 HC HXE HL HMR
  go_wp2_with fail
  refine KR.out.mono ?_
  rintro E w5 ⟨v', rfl, hgr⟩
  have hgb : g ∉ (Value.slice a n cap).ownBlock.toList := fun hx => H.out.own g (by simpa using hx) rfl
  have b5 := hgr.2.2.keep hgb H4.out.blk
  have c5 := cell_of_block b5 0
  have f5 := free_of_block b5 0
  simp only [List.getElem?_toArray, List.getElem?_cons_zero] at c5
  have HB5 := hidI b5
  have hcr := (cut_of HM.out HS.out).right
  obtain ⟨a5, cap5, he5, -⟩ := hgr.1.row (by have := right_short hcr; omega) (fun x hx => is_ok (right_is hcr x hx))
  generalize (cutP m (s1, s2)).length = n5 at he5
  subst he5
  have HG5 := hidI hgr
  clear hgr b5 c4 f4 hcr
  go_wp2_with fail
  go_ret
  obtain ⟨v', hv'⟩ : ∃ v', v' = Value.slice a5 n5 cap5 := ⟨_, rfl⟩
  rw [← hv'] at HG5 ⊢
  clear hv'
  have hszw : w.heap.size ≤ w4.heap.size := HA4.out.size
  have hrl : ∀ t, r.ownBlock = some t → w.heap.size ≤ t ∧ t < w4.heap.size := fun t ht => ⟨Nat.le_trans HA2.out.size (HR4.out.2.1 t ht), HR4.out.1.lt t ht⟩
  have hrn : ∀ t, r.ownBlock = some t → t ∉ (Value.slice a n cap).ownBlock.toList := fun t ht hc => by
    have := HVL.out t (by simpa using hc)
    have := (hrl t ht).1
    omega
  have hap : ∀ t, r.ownBlock = some t → v'.ownBlock ≠ some t := fun t ht hc => by
    rcases HG5.out.2.1 t hc with h1 | h1
    · exact hrn t ht (by simpa using h1)
    · have := (hrl t ht).2; omega
  have hvg : ∀ t, v'.ownBlock = some t → t ≠ g := fun t ht hc => by
    subst hc
    rcases HG5.out.2.1 t ht with h1 | h1
    · exact hgb (by simpa using h1)
    · omega
  have hset : Away [g] w5 (w5.setCell ⟨g, 0, none⟩ v') := (Away.refl _ _).setCell (.inl (by simp)) _
  refine ⟨r, v', rfl, ?_, fun t ht => (hrl t ht).1, ?_, fun t ht => ?_, hap, ?_⟩
  · rw [HF.out]
    exact (HR4.out.1.away HG5.out.2.2 hrn).away hset (fun t ht => by simp; have := (hrl t ht).1; omega)
  · refine ⟨?_, HG5.out.1.away hset (fun t ht => by simpa using hvg t ht), hvg, (cut_of HM.out HS.out).right⟩
    have := block_set HB5.out 0 v'
    simpa using this
  · rcases HG5.out.2.1 t ht with h1 | h1
    · exact .inl h1
    · exact .inr (by omega)
  · exact ((HA4.out.mono (by simp)).next (HG5.out.2.2) (fun z hz => .inl (by simp at hz ⊢; exact .inr hz))).next hset (fun z hz => .inl (by simp at hz ⊢; exact .inl hz))
end Go.Proofs.YtkccpidgeecemaaGreatDoor.H
