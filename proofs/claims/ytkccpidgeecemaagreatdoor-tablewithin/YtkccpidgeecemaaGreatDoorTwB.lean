/-
  quota.
-/
import Derived.Test.YtkccpidgeecemaaGreatDoorTbC
import Derived.Test.YtkccpidgeecemaaGreatDoorFse15
import Derived.Test.YtkccpidgeecemaaGreatDoorOwnP
import Derived.Test.YtkccpidgeecemaaGreatDoorTbA
import Derived.Deep.CutBlock
import Derived.Deep.DeepCutAuto
namespace Go.Proofs.YtkccpidgeecemaaGreatDoor
open Go.ChangeShapes Go.WideShapes Go.ChangeAt Go.RowKit
set_option linter.unusedVariables false
set_option linter.unusedSimpArgs false
set_option maxRecDepth 20000

structure Keep (q : Qo) (t : Int) (cs : List Cel) : Prop where
  len : (cs.length : Int) ≤ q.e
  sum : sumC cs ≤ q.b
  tb : ∀ c ∈ cs, 0 ≤ c.s.tb ∧ c.s.tb ≤ t ∧ t - c.s.tb < q.t
  hol : ∀ c ∈ cs, holesN c.s ≤ q.h
  srt : cs.Pairwise (fun a b => a.s.tb ≤ b.s.tb)
theorem keep_new {q : Qo} (hq : 0 ≤ q.e ∧ 0 ≤ q.b) (t : Int) : Keep q t [] := ⟨hq.1, hq.2, by simp, by simp, .nil⟩
theorem sumC_cons (c : Cel) (r : List Cel) : sumC (c :: r) = c.s.h + sumC r := by simp [sumC]
theorem sumC_sub {a b : List Cel} (h : a.Sublist b) (hb : ∀ c ∈ b, 0 ≤ c.s.h) : sumC a ≤ sumC b := by
  induction h with
  | slnil => exact Int.le_refl _
  | cons x _ ih =>
    rw [sumC_cons]
    have h1 := hb x (by simp)
    have h2 := ih (fun c hc => hb c (by simp [hc]))
    omega
  | cons_cons x _ ih =>
    rw [sumC_cons, sumC_cons]
    have h2 := ih (fun c hc => hb c (by simp [hc]))
    omega
/-- What is not yet late, at a time that is later. -/
theorem drop_late {q : Qo} {t now : Int} : ∀ {cs : List Cel}, cs.Pairwise (fun a b => a.s.tb ≤ b.s.tb) → ∀ c ∈ cs.dropWhile (lateB q now), now - c.s.tb < q.t
  | [], _, c, hc => by simp at hc
  | a :: r, h, c, hc => by
    rw [List.pairwise_cons] at h
    rw [List.dropWhile_cons] at hc
    split at hc
    · exact drop_late (t := t) h.2 c hc
    · rename_i hl
      have h0 : now - a.s.tb < q.t := by unfold lateB at hl; simp at hl; omega
      rcases List.mem_cons.1 hc with rfl | hc
      · exact h0
      · have := h.1 c hc; omega
theorem Keep.late {q : Qo} {t now : Int} {cs : List Cel} (h : Keep q t cs) (hge : ∀ c ∈ cs, 0 ≤ c.s.h) (htn : t ≤ now) : Keep q now (cs.dropWhile (lateB q now)) := by
  have hs := List.dropWhile_sublist (lateB q now) (l := cs)
  have hlen := hs.length_le
  have hsum := sumC_sub hs hge
  have h1 := h.len; have h2 := h.sum
  refine ⟨by omega, by omega, fun c hc => ?_, fun c hc => h.hol c (hs.subset hc), h.srt.sublist hs⟩
  have h3 := h.tb c (hs.subset hc)
  have h4 := drop_late (t := t) (now := now) (q := q) h.srt c hc
  omega
theorem push_ok {q : Qo} (hq : 0 ≤ q.e ∧ 0 ≤ q.b) : ∀ cs : List Cel, overB q (cs.drop (pushN q cs)) = false
  | [] => by
    unfold overB
    simp [sumC]
    omega
  | c :: r => by
    by_cases h : overB q (c :: r) = true
    · rw [pushN, if_pos h, List.drop_succ_cons]
      exact push_ok hq r
    · rw [pushN, if_neg h, List.drop_zero]
      simpa using h
theorem over_no {q : Qo} {cs : List Cel} (h : overB q cs = false) : (cs.length : Int) ≤ q.e ∧ sumC cs ≤ q.b := by
  unfold overB at h
  rw [Bool.or_eq_false_iff, decide_eq_false_iff_not, decide_eq_false_iff_not] at h
  omega
theorem set_erase {α : Type} (x : α) : ∀ (l : List α) (i : Nat), (l.set i x).eraseIdx i = l.eraseIdx i
  | [], _ => by simp
  | a :: r, 0 => by simp
  | a :: r, i + 1 => by simp [set_erase x r i]
/-- What stands behind an accepted call: of one that stood, or new. -/
def From (q : Qo) (now : Int) (cs : List Cel) (p : Pk) (cs' : List Cel) : Prop :=
  ∀ k c', cs'[k]? = some c' → (∃ c ∈ cs, c.s.k = c'.s.k ∧ c.s.tb = c'.s.tb ∧ now - c.s.tb < q.t) ∨ (k + 1 = cs'.length ∧ c'.s.tb = now ∧ c'.s.k = p)
/-- An entry put in another's place. -/
theorem Keep.renew {q : Qo} {now : Int} {D L : List Cel} {i : Nat} {c c2 : Cel} {p : Pk} (h : Keep q now D) (hq : 0 ≤ q.e ∧ 0 ≤ q.b ∧ 0 ≤ q.h ∧ 1 ≤ q.t) (h0 : 0 ≤ now) {cs1 : List Cel}
    (hc : (cs1 = D ∧ cs1[i]? = some c) ∨ (cs1 = D ++ [c] ∧ i = D.length ∧ c.s.tb = now ∧ c.s.k = p)) (hk : c2.s.k = c.s.k) (ht : c2.s.tb = c.s.tb) (hh : holesN c2.s ≤ q.h) (hL : L = (cs1.set i c2).drop (pushN q (cs1.set i c2))) :
    Keep q now L ∧ From q now D p L := by
  have hov := over_no (push_ok ⟨hq.1, hq.2.1⟩ (cs1.set i c2))
  rw [← hL] at hov
  have hil : i < cs1.length := by
    rcases hc with ⟨rfl, h1⟩ | ⟨rfl, rfl, -, -⟩
    · exact lt_of_get h1
    · simp
  have hci : cs1[i]? = some c := by
    rcases hc with ⟨rfl, h1⟩ | ⟨rfl, rfl, -, -⟩
    · exact h1
    · simp
  have hat : ∀ (j : Nat) (d : Cel), (cs1.set i c2)[j]? = some d → (j ≠ i ∧ cs1[j]? = some d ∧ d ∈ D) ∨ (j = i ∧ d = c2) := fun j d hd => by
    by_cases hji : j = i
    · subst hji
      rw [List.getElem?_set_self hil] at hd
      exact .inr ⟨rfl, (Option.some.inj hd).symm⟩
    · rw [List.getElem?_set_ne (fun e => hji e.symm)] at hd
      refine .inl ⟨hji, hd, ?_⟩
      rcases hc with ⟨rfl, -⟩ | ⟨rfl, rfl, -, -⟩
      · exact List.mem_of_getElem? hd
      · have hjl := lt_of_get hd
        simp at hjl
        rw [List.getElem?_append_left (by omega)] at hd
        exact List.mem_of_getElem? hd
  have hc2 : 0 ≤ c2.s.tb ∧ c2.s.tb ≤ now ∧ now - c2.s.tb < q.t := by
    rw [ht]
    rcases hc with ⟨rfl, h1⟩ | ⟨-, -, h1, -⟩
    · exact h.tb c (List.mem_of_getElem? h1)
    · rw [h1]; omega
  have hmem : ∀ d ∈ L, d ∈ D ∨ d = c2 := fun d hd => by
    rw [hL] at hd
    obtain ⟨j, hj⟩ := List.mem_iff_getElem?.1 (List.mem_of_mem_drop hd)
    rcases hat j d hj with ⟨-, -, h2⟩ | ⟨-, h2⟩
    · exact .inl h2
    · exact .inr h2
  refine ⟨⟨hov.1, hov.2, fun d hd => ?_, fun d hd => ?_, ?_⟩, fun k d hd => ?_⟩
  · rcases hmem d hd with h1 | rfl
    · exact h.tb d h1
    · exact hc2
  · rcases hmem d hd with h1 | rfl
    · exact h.hol d h1
    · exact hh
  · rw [hL]
    refine List.Pairwise.sublist (List.drop_sublist _ _) ?_
    have hs1 : cs1.Pairwise (fun a b => a.s.tb ≤ b.s.tb) := by
      rcases hc with ⟨rfl, -⟩ | ⟨rfl, rfl, h1, -⟩
      · exact h.srt
      · refine List.pairwise_append.2 ⟨h.srt, by simp, fun a ha b hb => ?_⟩
        simp at hb
        subst hb
        rw [h1]; exact (h.tb a ha).2.1
    rw [List.pairwise_iff_getElem] at hs1 ⊢
    intro a b ha hb hab
    have hla : a < cs1.length := by simpa using ha
    have hlb : b < cs1.length := by simpa using hb
    have e : ∀ j (hj : j < cs1.length), ((cs1.set i c2)[j]'(by simpa using hj)).s.tb = (cs1[j]).s.tb := fun j hj => by
      rw [List.getElem_set]
      split
      · rename_i hij
        subst hij
        have h1 : cs1[i]? = some cs1[i] := List.getElem?_eq_getElem hj
        rw [hci] at h1
        rw [ht, ← Option.some.inj h1]
      · rfl
    rw [e a hla, e b hlb]
    exact hs1 a b hla hlb hab
  · rw [hL, List.getElem?_drop] at hd
    have hlL : L.length = (cs1.set i c2).length - pushN q (cs1.set i c2) := by rw [hL, List.length_drop]
    rcases hat _ d hd with ⟨-, -, h2⟩ | ⟨h1, rfl⟩
    · exact .inl ⟨d, h2, rfl, rfl, (h.tb d h2).2.2⟩
    · rcases hc with ⟨rfl, h3⟩ | ⟨rfl, rfl, h3, h4⟩
      · have h5 := List.mem_of_getElem? h3
        exact .inl ⟨c, h5, hk.symm, ht.symm, (h.tb c h5).2.2⟩
      · right
        refine ⟨?_, ht.trans h3, hk.trans h4⟩
        rw [hlL]
        simp only [List.length_set, List.length_append, List.length_singleton]
        omega
theorem Keep.res {q : Qo} {now t : Int} {cs cs' : List Cel} {p : Pk} {n : Int} {wh ks : List Pk} (h : Keep q t cs) (hge : ∀ c ∈ cs, 0 ≤ c.s.h) (hq : 0 ≤ q.e ∧ 0 ≤ q.b ∧ 0 ≤ q.h ∧ 1 ≤ q.t) (htn : t ≤ now) (h0 : 0 ≤ now)
    (hr : Res q now (cs.dropWhile (lateB q now)) p n wh ks cs') : Keep q now cs' ∧ From q now cs p cs' := by
  have hK := h.late (now := now) hge htn
  have hsub := List.dropWhile_sublist (lateB q now) (l := cs)
  obtain ⟨D, hD⟩ : ∃ D, D = cs.dropWhile (lateB q now) := ⟨_, rfl⟩
  rw [← hD] at hr hK hsub
  have hgD : ∀ c ∈ D, 0 ≤ c.s.h := fun c hc => hge c (hsub.subset hc)
  have key : ∀ {M : List Cel}, Keep q now M ∧ From q now D p M → Keep q now M ∧ From q now cs p M := fun {M} hm => ⟨hm.1, fun k d hd => by
    rcases hm.2 k d hd with ⟨c, h1, h2⟩ | h1
    · exact .inl ⟨c, hsub.subset h1, h2⟩
    · exact .inr h1⟩
  have hself : ∀ {M : List Cel}, M.Sublist D → Keep q now M ∧ From q now D p M := fun {M} hm => by
    have h1 := hK.len; have h2 := hK.sum; have h3 := hm.length_le; have h4 := sumC_sub hm hgD
    exact ⟨⟨by omega, by omega, fun c hc => hK.tb c (hm.subset hc), fun c hc => hK.hol c (hm.subset hc), hK.srt.sublist hm⟩,
      fun k d hd => .inl ⟨d, hm.subset (List.mem_of_getElem? hd), rfl, rfl, (hK.tb d (hm.subset (List.mem_of_getElem? hd))).2.2⟩⟩
  apply key
  rcases hr with ⟨-, -, -, -, rfl⟩ | ⟨-, cs1, i, c, fp1, fp2, hcc, htk⟩
  · exact hself (List.Sublist.refl _)
  · have hc : (cs1 = D ∧ cs1[i]? = some c) ∨ (cs1 = D ++ [c] ∧ i = D.length ∧ c.s.tb = now ∧ c.s.k = p) := by
      rcases hcc with ⟨rfl, h1, -⟩ | ⟨-, g, fp, rfl, h1, h2⟩
      · exact .inl ⟨rfl, h1⟩
      · exact .inr ⟨h1, h2, rfl, rfl⟩
    have hkt := put_kt c.s p
    unfold takeC at htk
    split at htk
    · simp only [Tk.mk.injEq] at htk
      obtain ⟨-, -, -, rfl⟩ := htk
      rw [set_erase]
      rcases hc with ⟨rfl, -⟩ | ⟨rfl, rfl, -, -⟩
      · exact hself (List.eraseIdx_sublist _ _)
      · rw [show (D ++ [c]).eraseIdx D.length = D from by rw [List.eraseIdx_append_of_length_le (Nat.le_refl _)]; simp]
        exact hself (List.Sublist.refl _)
    · split at htk
      · simp only [Tk.mk.injEq] at htk
        obtain ⟨-, -, -, hL⟩ := htk
        exact hK.renew hq h0 hc (c2 := ⟨poisS (putS c.s p).2, c.g, fp2⟩) hkt.1 hkt.2 (by simp [holesN, poisS]; exact hq.2.2.1) hL.symm
      · rename_i hno
        simp only [Tk.mk.injEq] at htk
        obtain ⟨-, -, -, hL⟩ := htk
        exact hK.renew hq h0 hc (c2 := ⟨(putS c.s p).2, c.g, fp1⟩) hkt.1 hkt.2 (by simp only; omega) hL.symm
end Go.Proofs.YtkccpidgeecemaaGreatDoor

namespace Go.Proofs.YtkccpidgeecemaaGreatDoor
open Go.ChangeShapes Go.WideShapes Go.ChangeAt Go.RowKit
open S6 (wp_region_cls quiet_val quiet_call quiet_ld ld3 ld4 ld5 ld25 ld26 load28_run load24m_run)
set_option linter.unusedVariables false
set_option linter.unusedSimpArgs false
set_option maxHeartbeats 8000000
set_option maxRecDepth 100000


theorem right_e (p : Pk) (ov dv : Value) (w : World) (hp : Pkt w p ov dv) (hg : Glob w) :
    Calls Tryz.prog 12 #[.agg (csP p ov dv)] w fun E w' => E = .returned (.bool (rgt2 p)) ∧ Away [] w w' := by
  have HAD := Lib.hid hp.wf.ad
  have K4 : Hid (∀ W, Away [] w W → Calls Tryz.prog 30 #[.agg (csP p ov dv)] W fun E w' => E = .returned (.bool (rightP p)) ∧ Away [] W w') := fun W hW => right_c p ov dv W (hp.on hW) (hg.on hW)
  have K6 : Hid (∀ W, Away [] w W → Calls Tryz.prog 31 #[.agg (csP p ov dv)] W fun E w' => E = .returned (.bool (S6.rightP p)) ∧ Away [] W w') := fun W hW => S6.right_c p ov dv W (hp.on hW).six
  have HR : Hid (rgt2 p = (rightP p || S6.rightP p)) := rfl
  clear hp hg
  generalize rightP p = r4 at *
  generalize S6.rightP p = r6 at *
  go_enter Tryz.func12, Tryz.ntmps12
  go_wp2_with (refine wpList_box28 rfl _ rfl p _ _ rfl ?_; refine Hid.out ?_)
  refine Lib.hid ?_
  intro g1 w1 hg1 hb haw
  have HB := Lib.hid hb
  have HA := Lib.hid haw
  clear hb haw hg1
  have K4' := Lib.hid (K4.out w1 HA.out)
  go_wp2_with (first
    | (refine wpList_load28 rfl _ rfl g1 rfl p _ _ (by exact HB.out) HAD.out ?_)
    | (go_at_call 30; refine K4'.out.mono ?_; refine Hid.out ?_))
  refine Lib.hid ?_
  first
    | rintro E w2 rfl haw
    | rintro E w2 ⟨rfl, haw⟩
  have HA2 := Lib.hid (HA.out.trans haw)
  have HB2 := Lib.hid (HB.out.on haw)
  clear haw K4 K4'
  cases r4 with
  | true =>
    go_wp2_with fail
    go_ret
    exact ⟨by rw [HR.out]; rfl, HA2.out⟩
  | false =>
    have K6' := Lib.hid (K6.out w2 HA2.out)
    go_wp2_with (first
      | (refine wpList_load28 rfl _ rfl g1 rfl p _ _ (by exact HB2.out) HAD.out ?_)
      | (go_at_call 31; refine K6'.out.mono ?_; refine Hid.out ?_))
    refine Lib.hid ?_
    first
      | rintro E w3 rfl haw
      | rintro E w3 ⟨rfl, haw⟩
    have HA3 := Lib.hid (HA2.out.trans haw)
    clear haw K6 K6'
    go_wp2_with fail
    go_ret
    exact ⟨by rw [HR.out]; rfl, HA3.out⟩
/-- Keys that can be read. -/
def RowK (w : World) (a : Option Addr) (ks : List Pk) : Prop := ∀ (i : Nat) (x : Pk), ks[i]? = some x → ∃ b o, a = some ⟨b, o, none⟩ ∧ w.rangeAt b (o + i * 37) (listK x)
theorem RowK.on {w w' : World} {a : Option Addr} {ks : List Pk} (h : RowK w a ks) (hw : Away [] w w') : RowK w' a ks := fun i x hx => by
  obtain ⟨b, o, h1, h2⟩ := h i x hx
  exact ⟨b, o, h1, range_away hw (by simp) h2⟩
/-- Where a key stands. -/
def PosK (ks : List Pk) (p : Pk) (z : Int) : Prop := (z = -1 ∧ ∀ x ∈ ks, kyB x p = false) ∨ ∃ i x, z = ((i : Nat) : Int) ∧ ks[i]? = some x ∧ kyB x p = true ∧ ∀ j y, j < i → ks[j]? = some y → kyB y p = false
set_option maxHeartbeats 8000000 in
theorem place_e (w : World) (a : Option Addr) (ks : List Pk) (n cap : Nat) (p : Pk) (hr : RowK w a ks) (hn : ks.length = n) (hn1 : n ≤ 1000000) (hA : ∀ x ∈ ks, Ad x) (hp : Ad p) :
    Calls Tryz.prog 17 #[.slice a n cap, .agg (csK p)] w fun E w' => ∃ z, E = .returned (.int .i64 z) ∧ PosK ks p z ∧ Away [] w w' := by
  have HR := Lib.hid hr
  have HA := Lib.hid hA
  have HP := Lib.hid hp
  have HN := Lib.hid hn
  clear hr hA hp hn
  go_enter Tryz.func17, Tryz.ntmps17
  have hb3 : BoxK (w.alloc (.cells (csK p) 55)) w.heap.size (csK p) := block_new _ _
  have haw3 : Away [] w (w.alloc (.cells (csK p) 55)) := (Away.refl _ _).alloc _
  go_wp2_with fail
  obtain ⟨g3, hg3⟩ : ∃ z, z = w.heap.size := ⟨_, rfl⟩
  obtain ⟨w1, hw1⟩ : ∃ z, z = w.alloc (.cells (csK p) 55) := ⟨_, rfl⟩
  rw [← hg3, ← hw1] at hb3 ⊢
  rw [← hw1] at haw3
  have HB := Lib.hid hb3
  have HW := Lib.hid haw3
  clear hb3 haw3 hg3 hw1
  go_loopw [5] (fun v wr => ∃ k : Nat, k ≤ n ∧ v = .int .i64 (k : Int) ∧ Away [] w1 wr ∧ ∀ j y, j < k → ks[j]? = some y → kyB y p = false) (fun v _ => n - (intOf v).toNat)
  case atStart => exact ⟨0, by omega, rfl, Away.refl _ _, fun j y hj => by omega⟩
  case round =>
    obtain ⟨k, hk, rfl, haw, hno⟩ := hrel
    have HAW := Lib.hid haw
    have HNO := Lib.hid hno
    clear haw hno
    by_cases hlt : k < n
    · have j1 : (k : Int) < (n : Int) := by omega
      have j2 : 0 ≤ (k : Int) := by omega
      have j3 : ((k : Int)).toNat = k := by omega
      obtain ⟨y, hy, hym⟩ := get_of (show k < ks.length by rw [HN.out]; exact hlt)
      obtain ⟨gb, go, hao, hrg⟩ := HR.out k y hy
      subst hao
      have HYG := Lib.hid hy
      have HRG := Lib.hid hrg
      have HYA := Lib.hid (HA.out y hym)
      have HC : Hid (Away [] wr wr.drew) := (Away.refl _ _).drew
      clear hy hym hrg
      cases hv : kyB y p with
      | true =>
        have HQ : Hid (∀ w, (Op.equalIn 10000 55 (.agg (csK y)) (.agg (csK p))).run Tryz.prog w = .ok true w) := fun w => by
          have h := eq78 y p HYA.out HP.out w
          rw [key_ky, hv] at h
          exact h
        have HKV := Lib.hid hv
        clear hv
        go_wp2_with fail
        refine wp_region_cls (C := fun w' => Away [] wr w') (by kernel_rfl) (by kernel_rfl) HC.out ?_
        go_big_quiet_want; (refine quiet_val ?_ ?_ ?_; rotate_left; (intro w; go_simp; rfl); go_simp; go_big_quiet_on)
        go_big_quiet_want; (refine quiet_val ?_ ?_ ?_; rotate_left; (intro w; go_simp; rfl); go_simp; go_big_quiet_on)
        go_big_quiet_want; (refine quiet_val ?_ ?_ ?_; rotate_left; (intro w; go_simp; rfl); go_simp; go_big_quiet_on)
        go_big_quiet_want; refine quiet_ld _ rfl (ad := ⟨gb, go + k * 37, none⟩) rfl (fun w' h => load29_run (range_away (HW.out.trans (HAW.out.trans h)) (by simp) HRG.out) HYA.out) ?_; go_simp; go_big_quiet_on
        go_big_quiet_want; refine quiet_ld _ rfl (ad := ⟨g3, 0, none⟩) rfl (fun w' h => load29_run (range_away h (by simp) (boxK_range (HAW.out.keep (by simp) HB.out))) HP.out) ?_; go_simp; go_big_quiet_on
        go_big_quiet_want; refine quiet_eq78 _ _ rfl (csK y) (csK p) rfl rfl true HQ.out ?_; go_simp; go_big_quiet_on
        refine wpQuiet_nil ?_
        intro V hV
        go_wp2_with fail
        go_ret
        exact ⟨_, rfl, .inr ⟨k, y, rfl, HYG.out, HKV.out, HNO.out⟩, (HW.out.trans HAW.out).trans hV⟩
      | false =>
        have HQ : Hid (∀ w, (Op.equalIn 10000 55 (.agg (csK y)) (.agg (csK p))).run Tryz.prog w = .ok false w) := fun w => by
          have h := eq78 y p HYA.out HP.out w
          rw [key_ky, hv] at h
          exact h
        have HKV := Lib.hid hv
        clear hv
        go_wp2_with fail
        refine wp_region_cls (C := fun w' => Away [] wr w') (by kernel_rfl) (by kernel_rfl) HC.out ?_
        go_big_quiet_want; (refine quiet_val ?_ ?_ ?_; rotate_left; (intro w; go_simp; rfl); go_simp; go_big_quiet_on)
        go_big_quiet_want; (refine quiet_val ?_ ?_ ?_; rotate_left; (intro w; go_simp; rfl); go_simp; go_big_quiet_on)
        go_big_quiet_want; (refine quiet_val ?_ ?_ ?_; rotate_left; (intro w; go_simp; rfl); go_simp; go_big_quiet_on)
        go_big_quiet_want; refine quiet_ld _ rfl (ad := ⟨gb, go + k * 37, none⟩) rfl (fun w' h => load29_run (range_away (HW.out.trans (HAW.out.trans h)) (by simp) HRG.out) HYA.out) ?_; go_simp; go_big_quiet_on
        go_big_quiet_want; refine quiet_ld _ rfl (ad := ⟨g3, 0, none⟩) rfl (fun w' h => load29_run (range_away h (by simp) (boxK_range (HAW.out.keep (by simp) HB.out))) HP.out) ?_; go_simp; go_big_quiet_on
        go_big_quiet_want; refine quiet_eq78 _ _ rfl (csK y) (csK p) rfl rfl false HQ.out ?_; go_simp; go_big_quiet_on
        refine wpQuiet_nil ?_
        intro V hV
        go_wp2_with fail
        go_roundw
        case rel => exact ⟨k + 1, by omega, by go_num, HAW.out.trans hV, fun j z hj hz => by
          by_cases he : j = k
          · subst he
            have h1 := HYG.out
            rw [hz] at h1
            rw [Option.some.inj h1]; exact HKV.out
          · exact HNO.out j z (by omega) hz⟩
        case measure => simp [intOf]; omega
    · have j1 : ¬ ((k : Int) < (n : Int)) := by omega
      obtain rfl : n = k := by omega
      go_wp2_with fail
      go_ret
      exact ⟨_, rfl, .inl ⟨rfl, fun x hx => by
        obtain ⟨j, hj, hjx⟩ := List.getElem_of_mem hx
        exact HNO.out j x (by rw [← HN.out]; exact hj) (by rw [List.getElem?_eq_getElem hj, hjx])⟩, HW.out.trans HAW.out⟩
end Go.Proofs.YtkccpidgeecemaaGreatDoor

namespace Go.Proofs.YtkccpidgeecemaaGreatDoor
open Go.ChangeShapes Go.WideShapes Go.ChangeAt Go.RowKit
open S6 (wp_region_cls quiet_val quiet_call quiet_ld ld3 ld4 ld5 ld25 ld26 load28_run load24m_run)
set_option linter.unusedVariables false
set_option linter.unusedSimpArgs false
set_option maxHeartbeats 8000000
set_option maxRecDepth 100000


theorem emptyB (w : World) : (Instr.buildSlice 37 0 #[]).run Tryz.prog w = .ok (.slice (some ⟨w.heap.size, 0, none⟩) 0 0) (w.alloc (.cells #[] 5)) := by kernel_rfl
theorem emptyB_owns (w : World) : Owns (w.alloc (.cells #[] 5)) (.slice (some ⟨w.heap.size, 0, none⟩) 0 0) [] := World.ownsRow_lit (base := 0) (e := 5) (size := 1) w #[] 0 (Nat.zero_le _) (by decide) rfl
theorem wpList_emptyB {ops : Array Oper} {rest : List Oper} {o : Oper} {a : Act} {w : World} {Q : Exit → Act → World → Prop} (hw : Region.wanted o (yielded ops a.tmps) = true) (ho : o.op = .buildSlice 37 0 #[])
    (h : ∀ g w1, w.heap.size ≤ g → Owns w1 (.slice (some ⟨g, 0, none⟩) 0 0) [] → Away [] w w1 → wpList Tryz.prog ops Q rest (a.put o.dst (.slice (some ⟨g, 0, none⟩) 0 0)) w1) : wpList Tryz.prog ops Q (o :: rest) a w :=
  BigFrame.wpList_want hw fun K hK => by
    unfold Oper.wp execOp
    simp only [ho, List.map_toArray, List.map_nil, emptyB, Sem.run_bind, Result.andThen_ok, Sem.run_pure]
    exact hK _ _ (h _ _ (Nat.le_refl _) (emptyB_owns w) ((Away.refl _ _).alloc _))
/-- An append of bytes that can be read, nil or not. -/
theorem wpList_appR {w : World} {ops : Array Oper} {rest : List Oper} {o : Oper} {a : Act} {Q : Exit → Act → World → Prop} (hgd : o.guard = none) (s x : Operand)
    (ho : o.op = .call { callee := .builtin .append, args := #[s, x], argTypes := #[37, 37] }) (v : Value) (l m : List Int) (hs : a.eval s = v) (hown : Owns w v l)
    (xa : Option Addr) (n c : Nat) (hx : a.eval x = .slice xa n c) (hsl : Sl w (.slice xa n c) m) (hlen : l.length + m.length ≤ 140737488355328)
    (h : ∀ v' w', Owns w' v' (l ++ m) → Away v.ownBlock.toList w w' → Moved w v v' → wpList Tryz.prog ops Q rest (a.put o.dst v') w') : wpList Tryz.prog ops Q (o :: rest) a w := by
  obtain ⟨h1, h2, h3, h4⟩ := hsl.of
  cases xa with
  | none =>
    have hc := h3 rfl
    have hn : n = 0 := by omega
    subst hn; subst hc
    have hm : m = [] := List.eq_nil_of_length_eq_zero h1
    subst hm
    refine wpList_app_none hgd s x ho v l hs hown hx ?_
    exact h v w (by rw [List.append_nil]; exact hown) ((Away.refl _ _)) (fun k hk => .inl hk)
  | some ad =>
    refine wpList_app hgd s x ho v l m hs hown ad n c hx h1 (fun j u hj => ?_) (by omega) (fun v' w' r1 r2 r3 => h v' w' r1 ((Away.refl _ w).grown r2 (fun k hk => .inl (by simp [hk]))) r3)
    rcases h4.2.2 with hm | ⟨b, off, e, hc⟩
    · rw [hm] at hj; simp at hj
    · simp only [Option.some.injEq] at e
      subst e
      rw [List.getElem?_map] at hj
      have hj2 : j < m.length := by
        rcases Nat.lt_or_ge j m.length with h | h
        · exact h
        · rw [List.getElem?_eq_none h] at hj; simp at hj
      rw [List.getElem?_eq_getElem hj2] at hj
      simp only [Option.map_some, Option.some.injEq] at hj
      rw [← hj]
      have h5 := hc j hj2
      rw [List.getElem?_eq_getElem hj2] at h5
      by_cases hj0 : j = 0
      · subst hj0; simpa [Addr.add] using h5
      · simpa [Addr.add, hj0] using h5
set_option maxHeartbeats 8000000 in
theorem own_e (w : World) (p : Pk) (ov dv : Value) (hp : Pkt w p ov dv) :
    Calls Tryz.prog 11 #[.agg (csP p ov dv)] w (OwnOut w p) := by
  have HAD : Hid (Ad p) := hp.wf.ad
  have HSL1 := Lib.hid hp.o; have HSL2 := Lib.hid hp.d
  have HLN1 : Hid (p.o.length ≤ 140737488355328) := hp.wf.ol
  have HLN2 : Hid (p.d.length ≤ 140737488355328) := hp.wf.dn
  obtain ⟨oa, on, oc, rfl⟩ : ∃ a n c, ov = .slice a n c := by obtain ⟨a, c, h, -⟩ := hp.o; exact ⟨_, _, _, h⟩
  obtain ⟨da, dn, dc, rfl⟩ : ∃ a n c, dv = .slice a n c := by obtain ⟨a, c, h, -⟩ := hp.d; exact ⟨_, _, _, h⟩
  clear hp
  go_enter Tryz.func11, Tryz.ntmps11
  go_wp2_with (refine wpList_box28 rfl _ rfl p _ _ rfl ?_; refine Hid.out ?_)
  refine Lib.hid ?_
  intro g1 w1 hg1 hb haw
  have HB := Lib.hid hb
  have HA := Lib.hid haw
  have HG1 : Hid (w.heap.size ≤ g1) := hg1
  clear hb haw hg1
  go_wp2_with (refine wpList_alloc28 rfl rfl ?_; refine Hid.out ?_)
  refine Lib.hid ?_
  intro g2 w2 hg2 hb haw
  have HB2 := Lib.hid hb
  have HG2 : Hid (w.heap.size ≤ g2) := Nat.le_trans HA.out.size hg2
  have HG12 : Hid (g2 ≠ g1) := fun e => by have := HB.out.lt; omega
  replace HB := Lib.hid (HB.out.on haw)
  replace HA := Lib.hid (HA.out.trans haw)
  have HL12 : Hid (g1 < w2.heap.size ∧ g2 < w2.heap.size) := ⟨HB.out.lt, HB2.out.lt⟩
  have HW2 : Hid (w.heap.size ≤ w2.heap.size) := HA.out.size
  clear hb haw hg2
  go_wp2_with (refine wpList_emptyB rfl rfl ?_; refine Hid.out ?_)
  refine Lib.hid ?_
  intro e1 x1 hge howe haw
  have HE := Lib.hid howe
  have HGE : Hid (∀ z, (Value.slice (some ⟨e1, 0, none⟩) 0 0).ownBlock = some z → w2.heap.size ≤ z) := fun z hz => by simp [Value.ownBlock] at hz; omega
  have HX1 : Hid (w2.heap.size ≤ x1.heap.size) := haw.size
  replace HB := Lib.hid (HB.out.on haw)
  replace HB2 := Lib.hid (HB2.out.on haw)
  replace HA := Lib.hid (HA.out.trans haw)
  clear howe haw hge
  have c44 := (HB.out.cells (by exact HAD.out)).o
  have HS := Lib.hid (HSL1.out.on HA.out)
  go_wp2_with (at_builtin; refine wpList_appR rfl _ _ rfl (.slice (some ⟨e1, 0, none⟩) 0 0) [] p.o rfl (by exact HE.out) _ _ _ rfl (by exact HS.out) (by simp; exact HLN1.out) ?_; refine Hid.out ?_)
  refine Lib.hid ?_
  intro v1 z1 hown haw hmv
  replace hown : Owns z1 v1 p.o := hown
  obtain ⟨a1, n1, c1', rfl⟩ := hown.shp
  have HO1 := Lib.hid hown
  have HN1 : Hid (∀ z, (Value.slice a1 n1 c1').ownBlock = some z → w2.heap.size ≤ z) := fun z hz => by
    rcases hmv z hz with h | h
    · exact HGE.out z h
    · have := HX1.out; omega
  have hnn : ∀ z ∈ (Value.slice (some ⟨e1, 0, none⟩) 0 0).ownBlock.toList, w2.heap.size ≤ z := fun z hz => HGE.out z (by simpa using hz)
  replace HB := Lib.hid (HB.out.away haw (fun hm => by have h1 := hnn _ hm; have h2 := HL12.out; omega))
  replace HB2 := Lib.hid (HB2.out.away haw (fun hm => by have h1 := hnn _ hm; have h2 := HL12.out; omega))
  have HZ1 : Hid (w2.heap.size ≤ z1.heap.size) := Nat.le_trans HX1.out haw.size
  replace HA : Hid (Away [] w z1) := HA.out.next haw (fun z hz => .inr (by have h1 := hnn z hz; have h2 := HW2.out; omega))
  clear hnn
  clear hown haw hmv HS HE c44
  go_wp2_with (refine wpList_putF rfl 37 _ _ rfl g1 44 rfl (.slice a1 n1 c1') rfl (fun u h1 h2 => put26 _ _ _ _ _ u h1 h2) p p (.slice oa on oc) (.slice da dn dc) (.slice a1 n1 c1') (.slice da dn dc) (by exact HB.out) (by exact HAD.out) (by omega) (by exact (csP_set (p := p) (by exact HAD.out) _ _).2.2.2.2.2.2.2.2.2.2.2.2.1 p.o _) ?_; refine Hid.out ?_)
  refine Lib.hid ?_
  intro y1 hb haw
  replace HB : Hid (BoxP y1 g1 p (.slice a1 n1 c1') (.slice da dn dc)) := hb
  replace HO1 := Lib.hid (HO1.out.away haw (fun z hz hm => by simp at hm; have h1 := HN1.out z hz; have h2 := HL12.out; omega))
  replace HB2 := Lib.hid (HB2.out.away haw (by simp; exact HG12.out))
  have HL1 : Hid (∀ z, (Value.slice a1 n1 c1').ownBlock = some z → z < y1.heap.size) := HO1.out.lt
  have HWY : Hid (w2.heap.size ≤ y1.heap.size) := Nat.le_trans HZ1.out haw.size
  replace HA : Hid (Away [] w y1) := HA.out.next haw (fun x hx => .inr (by simp at hx; subst hx; exact HG1.out))
  clear hb haw
  go_wp2_with (refine wpList_emptyB rfl rfl ?_; refine Hid.out ?_)
  refine Lib.hid ?_
  intro e2 x2 hge howe haw
  have HE := Lib.hid howe
  have HGE : Hid (∀ z, (Value.slice (some ⟨e2, 0, none⟩) 0 0).ownBlock = some z → y1.heap.size ≤ z) := fun z hz => by simp [Value.ownBlock] at hz; omega
  have HX2 : Hid (y1.heap.size ≤ x2.heap.size) := haw.size
  replace HB := Lib.hid (HB.out.on haw)
  replace HB2 := Lib.hid (HB2.out.on haw)
  replace HA := Lib.hid (HA.out.trans haw)
  replace HO1 := Lib.hid (HO1.out.away haw (by simp))
  clear howe haw hge
  have c45 := (HB.out.cells (by exact HAD.out)).d
  have HS := Lib.hid (HSL2.out.on HA.out)
  go_wp2_with (at_builtin; refine wpList_appR rfl _ _ rfl (.slice (some ⟨e2, 0, none⟩) 0 0) [] p.d rfl (by exact HE.out) _ _ _ rfl (by exact HS.out) (by simp; exact HLN2.out) ?_; refine Hid.out ?_)
  refine Lib.hid ?_
  intro v2 z2 hown haw hmv
  replace hown : Owns z2 v2 p.d := hown
  obtain ⟨a2, n2, c2', rfl⟩ := hown.shp
  have HO2 := Lib.hid hown
  have HN2 : Hid (∀ z, (Value.slice a2 n2 c2').ownBlock = some z → y1.heap.size ≤ z) := fun z hz => by
    rcases hmv z hz with h | h
    · exact HGE.out z h
    · have := HX2.out; omega
  have hnn : ∀ z ∈ (Value.slice (some ⟨e2, 0, none⟩) 0 0).ownBlock.toList, y1.heap.size ≤ z := fun z hz => HGE.out z (by simpa using hz)
  replace HB := Lib.hid (HB.out.away haw (fun hm => by have h1 := hnn _ hm; have h2 := HL12.out; have h3 := HWY.out; omega))
  replace HB2 := Lib.hid (HB2.out.away haw (fun hm => by have h1 := hnn _ hm; have h2 := HL12.out; have h3 := HWY.out; omega))
  replace HO1 := Lib.hid (HO1.out.away haw (fun z hz hm => by have h1 := hnn _ hm; have h2 := HL1.out z hz; omega))
  replace HA : Hid (Away [] w z2) := HA.out.next haw (fun z hz => .inr (by have h1 := hnn z hz; have h2 := HW2.out; have h3 := HWY.out; omega))
  clear hnn
  clear hown haw hmv HS HE c45
  have HAP : Hid (∀ z, (Value.slice a1 n1 c1').ownBlock = some z → (Value.slice a2 n2 c2').ownBlock ≠ some z) := fun z h1 h2 => by have h3 := HL1.out z h1; have h4 := HN2.out z h2; omega
  go_wp2_with (refine wpList_putF rfl 37 _ _ rfl g1 45 rfl (.slice a2 n2 c2') rfl (fun u h1 h2 => put26 _ _ _ _ _ u h1 h2) p p (.slice a1 n1 c1') (.slice da dn dc) (.slice a1 n1 c1') (.slice a2 n2 c2') (by exact HB.out) (by exact HAD.out) (by omega) (by exact (csP_set (p := p) (by exact HAD.out) _ _).2.2.2.2.2.2.2.2.2.2.2.2.2 p.d _) ?_; refine Hid.out ?_)
  refine Lib.hid ?_
  intro y2 hb haw
  replace HB : Hid (BoxP y2 g1 p (.slice a1 n1 c1') (.slice a2 n2 c2')) := hb
  replace HO1 := Lib.hid (HO1.out.away haw (fun z hz hm => by simp at hm; have h1 := HN1.out z hz; have h2 := HL12.out; omega))
  replace HO2 := Lib.hid (HO2.out.away haw (fun z hz hm => by simp at hm; have h1 := HN2.out z hz; have h2 := HL12.out; have h3 := HWY.out; omega))
  replace HB2 := Lib.hid (HB2.out.away haw (by simp; exact HG12.out))
  replace HA : Hid (Away [] w y2) := HA.out.next haw (fun x hx => .inr (by simp at hx; subst hx; exact HG1.out))
  clear hb haw
  go_wp2_with (first
    | (refine wpList_load28 rfl _ rfl g1 rfl p _ _ (by exact HB.out) (by exact HAD.out) ?_)
    | (refine wpList_store28 rfl _ _ rfl g2 rfl p (.slice a1 n1 c1') (.slice a2 n2 c2') rfl zeroPk (.slice none 0 0) (.slice none 0 0) (by exact HB2.out) (by exact HAD.out) ⟨rfl, rfl⟩ rfl rfl ?_; refine Hid.out ?_))
  refine Lib.hid ?_
  intro y3 hb haw
  have HB3 := Lib.hid hb
  replace HO1 := Lib.hid (HO1.out.away haw (fun z hz hm => by simp at hm; have h1 := HN1.out z hz; have h2 := HL12.out; omega))
  replace HO2 := Lib.hid (HO2.out.away haw (fun z hz hm => by simp at hm; have h1 := HN2.out z hz; have h2 := HL12.out; have h3 := HWY.out; omega))
  have HA3 : Hid (Away [] w y3) := HA.out.next haw (fun x hx => .inr (by simp at hx; subst hx; exact HG2.out))
  clear hb haw
  go_wp2_with fail
  exact bodyPost_ret (result28 rfl _ _ _ _ _ _ rfl HB3.out HAD.out) rfl ⟨_, _, rfl, ⟨HO1.out, HO2.out, fun z hz => Nat.le_trans HW2.out (HN1.out z hz), fun z hz => Nat.le_trans (Nat.le_trans HW2.out HWY.out) (HN2.out z hz), HAP.out⟩, HA3.out⟩
end Go.Proofs.YtkccpidgeecemaaGreatDoor

namespace Go.Proofs.YtkccpidgeecemaaGreatDoor
open Go.ChangeShapes Go.WideShapes Go.ChangeAt Go.RowKit
open S6 (wp_region_cls quiet_val quiet_call quiet_ld ld3 ld4 ld5 ld25 ld26 load28_run load24m_run)
set_option linter.unusedVariables false
set_option linter.unusedSimpArgs false
set_option maxHeartbeats 8000000
set_option maxRecDepth 100000


/-- Noughts from the fourth byte on, as far as k. -/
structure Zr4 (l : List Int) (k : Nat) : Prop where
  len : l.length = 16
  by' : Bytes l
  no : ∀ i : Nat, 4 ≤ i → i < k → l[i]? = some 0
theorem Zr4.set {l : List Int} {k : Nat} (h : Zr4 l k) (hk : k < 16) : Zr4 (l.set k 0) (k + 1) := by
  refine ⟨by rw [List.length_set]; exact h.len, fun b hb => ?_, fun i h1 h2 => ?_⟩
  · rcases List.mem_or_eq_of_mem_set hb with h3 | rfl
    · exact h.by' b h3
    · omega
  · by_cases he : i = k
    · subst he; rw [List.getElem?_set_self (by rw [h.len]; exact hk)]
    · rw [List.getElem?_set_ne (fun e => he e.symm)]; exact h.no i h1 (by omega)
theorem Zr4.fin {l : List Int} (h : Zr4 l 16) : l.drop 4 = z12 := by
  apply List.ext_getElem?
  intro i
  rw [List.getElem?_drop]
  by_cases hi : i < 12
  · rw [h.no (4 + i) (by omega) (by omega)]
    have : z12 = List.replicate 12 0 := rfl
    rw [this, List.getElem?_replicate, if_pos hi]
  · rw [List.getElem?_eq_none (by rw [h.len]; omega), List.getElem?_eq_none (by simp [z12]; omega)]
theorem u64_pos (n : Int) : 0 ≤ IntKind.u64.wrap n := by
  have : IntKind.u64.wrap n = n % 18446744073709551616 := rfl
  rw [this]; omega
end Go.Proofs.YtkccpidgeecemaaGreatDoor

namespace Go.Proofs.YtkccpidgeecemaaGreatDoor
open Go.ChangeShapes Go.WideShapes Go.ChangeAt Go.RowKit
open S6 (wp_region_cls quiet_val quiet_call quiet_ld ld3 ld4 ld5 ld25 ld26 load28_run load24m_run)
set_option linter.unusedVariables false
set_option linter.unusedSimpArgs false
set_option maxHeartbeats 8000000
set_option maxRecDepth 100000


end Go.Proofs.YtkccpidgeecemaaGreatDoor

namespace Go.Proofs.YtkccpidgeecemaaGreatDoor
open Go.ChangeShapes Go.WideShapes Go.ChangeAt Go.RowKit
open S6 (wp_region_cls quiet_val quiet_call quiet_ld ld3 ld4 ld5 ld25 ld26 load28_run load24m_run)
set_option linter.unusedVariables false
set_option linter.unusedSimpArgs false
set_option maxHeartbeats 8000000
set_option maxRecDepth 100000


/-- Ints that can be read. -/
def Ints (w : World) (a : Option Addr) (n : Nat) : Prop := ∀ i, i < n → ∃ b o z, a = some ⟨b, o, none⟩ ∧ w.cell? ⟨b, o + i, none⟩ = some (.int .i64 z) ∧ i64ok z
theorem Ints.on {w w' : World} {a : Option Addr} {n : Nat} (h : Ints w a n) (hw : Away [] w w') : Ints w' a n := fun i hi => by
  obtain ⟨b, o, z, h1, h2, h3⟩ := h i hi
  exact ⟨b, o, z, h1, hw.cell (by simp) h2, h3⟩

def BokR (w : World) (g N : Nat) (B : Nat → Bool) : Prop := ∀ i : Nat, i < N → w.cell? ⟨g, i, none⟩ = some (.bool (B i))
/-- The book of N places. -/
def Bkn (w : World) (g N : Nat) (B : Int → Bool) : Prop := ∃ cur, w.heap[g]? = some (.cells cur 4 (0, 0)) ∧ ∀ i : Nat, i < N → cur[i]? = some (.bool (B i))
section
variable {w w' : World} {g N : Nat} {B C : Int → Bool}
theorem Bkn.away {S : List Nat} (h : Bkn w g N B) (hw : Away S w w') (hg : g ∉ S) : Bkn w' g N B := by
  obtain ⟨cur, h1, h2⟩ := h
  exact ⟨cur, hw.keep hg h1, h2⟩
theorem Bkn.on (h : Bkn w g N B) (hw : Away [] w w') : Bkn w' g N B := h.away hw (by simp)
theorem Bkn.row (h : Bkn w g N B) : BokR w g N (fun n => B (n : Int)) := fun i hi => by
  obtain ⟨cur, h1, h2⟩ := h
  rw [cell_of_block h1]; exact h2 i hi
theorem Bkn.free (h : Bkn w g N B) (i : Nat) : w.frozen? ⟨g, i, none⟩ = false := by obtain ⟨cur, h1, -⟩ := h; exact free_of_block h1 i
theorem Bkn.lt (h : Bkn w g N B) : g < w.heap.size := by obtain ⟨cur, h1, -⟩ := h; exact lt_of_block h1
theorem Bkn.congr (h : Bkn w g N B) (hc : ∀ i : Nat, i < N → B i = C i) : Bkn w g N C := by
  obtain ⟨cur, h1, h2⟩ := h
  exact ⟨cur, h1, fun i hi => by rw [← hc i hi]; exact h2 i hi⟩
theorem arr_lt {cur : Array Value} {i : Nat} {v : Value} (h : cur[i]? = some v) : i < cur.size := by
  rcases Nat.lt_or_ge i cur.size with h4 | h4
  · exact h4
  · rw [Array.getElem?_eq_none h4] at h; simp at h
theorem Bkn.set (h : Bkn w g N B) {i : Nat} (hi : i < N) : Bkn (w.setCell ⟨g, i, none⟩ (.bool true)) g N (fun n => if n = (i : Int) then true else B n) := by
  obtain ⟨cur, h1, h2⟩ := h
  refine ⟨cur.setIfInBounds i (.bool true), block_set h1 i _, fun j hj => ?_⟩
  rw [Array.getElem?_setIfInBounds]
  by_cases hij : i = j
  · subst hij
    rw [if_pos rfl, if_pos (arr_lt (h2 i hi))]; simp
  · rw [if_neg hij, h2 j hj]; dsimp only; rw [if_neg (by omega)]
end
/-- Cuts: falling, multiples of 8, within. -/
structure Cps (r : List Nat) (b n : Nat) : Prop where
  fall : r.Pairwise (fun a b => b < a)
  in' : ∀ c ∈ r, c % 8 = 0 ∧ 0 < c ∧ c < n ∧ c < b
theorem Cps.head {r : List Nat} {b n : Nat} (h : Cps r b n) (hb : 0 < b) : r.headD 0 < b := by
  cases r with
  | nil => exact hb
  | cons c r => exact (h.in' c (by simp)).2.2.2
theorem Cps.cons {r : List Nat} {k n : Nat} (h : Cps r (8 * k) n) (hk : 0 < k) (hn : 8 * k < n) : Cps (8 * k :: r) (8 * (k + 1)) n :=
  ⟨List.pairwise_cons.2 ⟨fun c hc => (h.in' c hc).2.2.2, h.fall⟩, fun c hc => by
    rcases List.mem_cons.1 hc with rfl | hc
    · exact ⟨by omega, by omega, hn, by omega⟩
    · have := h.in' c hc; exact ⟨this.1, this.2.1, this.2.2.1, by omega⟩⟩
theorem Cps.more {r : List Nat} {k n : Nat} (h : Cps r (8 * k) n) : Cps r (8 * (k + 1)) n := ⟨h.fall, fun c hc => by have := h.in' c hc; exact ⟨this.1, this.2.1, this.2.2.1, by omega⟩⟩
end Go.Proofs.YtkccpidgeecemaaGreatDoor

namespace Go.Proofs.YtkccpidgeecemaaGreatDoor
open Go.ChangeShapes Go.WideShapes Go.ChangeAt Go.RowKit
open S6 (wp_region_cls quiet_val quiet_call quiet_ld ld3 ld4 ld5 ld25 ld26 load28_run load24m_run)
set_option linter.unusedVariables false
set_option linter.unusedSimpArgs false
set_option maxHeartbeats 8000000
set_option maxRecDepth 100000


def wideQ : Qo := ⟨64, 1048576, 8192, 1000⟩
end Go.Proofs.YtkccpidgeecemaaGreatDoor

namespace Go.Proofs.YtkccpidgeecemaaGreatDoor
open Go.ChangeShapes Go.WideShapes Go.ChangeAt Go.RowKit
open S6 (wp_region_cls quiet_val quiet_call quiet_ld ld3 ld4 ld5 ld25 ld26 load28_run load24m_run)
set_option linter.unusedVariables false
set_option linter.unusedSimpArgs false
set_option maxHeartbeats 8000000
set_option maxRecDepth 100000


theorem umod (z m : Int) (hm : 0 < m ∧ m ≤ 1048577) : 0 ≤ (IntKind.u64.wrap z).tmod m ∧ (IntKind.u64.wrap z).tmod m < m := ⟨Int.tmod_nonneg _ (u64_pos z), Int.tmod_lt_of_pos _ hm.1⟩
theorem wr64 (n : Int) (h : -9223372036854775808 ≤ n ∧ n ≤ 9223372036854775807) : wrap64 n = n := by unfold wrap64; omega
theorem rq_of (x b z t : Int) (h1 : 0 ≤ x ∧ x < 64) (h2 : 0 ≤ b ∧ b < 1048577) (h3 : 0 ≤ z ∧ z < 8192) (h4 : 1 ≤ t ∧ t ≤ 1099511627776) : rightQ ⟨wrap64 (1 + wrap64 x), wrap64 b, wrap64 (1 + wrap64 z), t⟩ = true := by
  rw [wr64 x (by omega), wr64 (1 + x) (by omega), wr64 b (by omega), wr64 z (by omega), wr64 (1 + z) (by omega)]
  unfold rightQ
  simp only [Bool.and_eq_true, decide_eq_true_eq]
  omega
set_option maxHeartbeats 4000000 in
theorem quota_e (w : World) (q : Qo) (hq : i64ok q.t) : Calls Tryz.prog 8 #[valQ q] w fun E w' => ∃ r, E = .returned (valQ r) ∧ rightQ r = true ∧ Away [] w w' := by
  unfold valQ
  have he := umod q.e 64 (by omega)
  have hb := umod q.b 1048577 (by omega)
  have hh := umod q.h 8192 (by omega)
  have HE := Lib.hid he
  have HB := Lib.hid hb
  have HH := Lib.hid hh
  have HQ := Lib.hid hq
  clear he hb hh hq
  go_enter Tryz.func8, Tryz.ntmps8
  go_wp2_with fail
  · rename_i h0
    have hq := HQ.out
    have h5 : wrap64 (-1 - q.t) = -1 - q.t := wr64 _ (by simp only [i64ok] at hq; omega)
    have h6 : wrap64 (1 + (wrap64 (-1 - q.t)).tmod 1099511627776) = 1 + (-1 - q.t) % 1099511627776 := by
      rw [h5, Int.tmod_eq_emod_of_nonneg (by omega)]
      exact wr64 _ (by omega)
    exact bodyPost_ret (results_cell_row rfl _ _ (w.heap.size + 1) _ _ _ _ rfl (heap_alloc2_new w _ _) Tryz.underlying23 rfl (by kernel_rfl)) rfl ⟨⟨_, _, _, _⟩, rfl, rq_of _ _ _ _ HE.out HB.out HH.out (by rw [h6]; omega), ((Away.refl _ _).alloc _).alloc _⟩
  · rename_i h0
    exact bodyPost_ret (results_cell_row rfl _ _ (w.heap.size + 1) _ _ _ _ rfl (heap_alloc2_new w _ _) Tryz.underlying23 rfl (by kernel_rfl)) rfl ⟨⟨_, _, _, _⟩, rfl, rq_of _ _ _ _ HE.out HB.out HH.out (by omega), ((Away.refl _ _).alloc _).alloc _⟩
end Go.Proofs.YtkccpidgeecemaaGreatDoor
