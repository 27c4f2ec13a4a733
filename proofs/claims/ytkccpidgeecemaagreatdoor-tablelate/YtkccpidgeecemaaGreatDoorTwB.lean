/-
  quota.
-/
import Derived.Test.YtkccpidgeecemaaGreatDoorTbC
import Derived.Test.YtkccpidgeecemaaGreatDoorFse15
import Derived.Test.YtkccpidgeecemaaGreatDoorOwnP
import Derived.Test.YtkccpidgeecemaaGreatDoorTbA
import Derived.Deep.CutBlock
import Derived.Deep.DeepCutAuto
namespace Go.Proofs.YtkccpidgeecemaaGreatDoor
open Go.ChangeShapes Go.WideShapes Go.ChangeAt Go.RowKit
set_option linter.unusedVariables false
set_option linter.unusedSimpArgs false
set_option maxRecDepth 20000
structure Keep (q : Qo) (t : Int) (cs : List Cel) : Prop where
  len : (cs.length : Int) ≤ q.e
  sum : sumC cs ≤ q.b
  tb : ∀ c ∈ cs, 0 ≤ c.s.tb ∧ c.s.tb ≤ t ∧ t - c.s.tb < q.t
  hol : ∀ c ∈ cs, holesN c.s ≤ q.h
  srt : cs.Pairwise (fun a b => a.s.tb ≤ b.s.tb)
theorem sumC_cons (c : Cel) (r : List Cel) : sumC (c :: r) = c.s.h + sumC r := by simp [sumC]
theorem sumC_sub {a b : List Cel} (h : a.Sublist b) (hb : ∀ c ∈ b, 0 ≤ c.s.h) : sumC a ≤ sumC b := by
  induction h with
  | slnil => exact Int.le_refl _
  | cons x _ ih =>
    rw [sumC_cons]
    have h1 := hb x (by simp)
    have h2 := ih (fun c hc => hb c (by simp [hc]))
    omega
  | cons_cons x _ ih =>
    rw [sumC_cons, sumC_cons]
    have h2 := ih (fun c hc => hb c (by simp [hc]))
    omega
theorem drop_late {q : Qo} {t now : Int} : ∀ {cs : List Cel}, cs.Pairwise (fun a b => a.s.tb ≤ b.s.tb) → ∀ c ∈ cs.dropWhile (lateB q now), now - c.s.tb < q.t
  | [], _, c, hc => by simp at hc
  | a :: r, h, c, hc => by
    rw [List.pairwise_cons] at h
    rw [List.dropWhile_cons] at hc
    split at hc
    · exact drop_late (t := t) h.2 c hc
    · rename_i hl
      have h0 : now - a.s.tb < q.t := by unfold lateB at hl; simp at hl; omega
      rcases List.mem_cons.1 hc with rfl | hc
      · exact h0
      · have := h.1 c hc; omega
theorem Keep.late {q : Qo} {t now : Int} {cs : List Cel} (h : Keep q t cs) (hge : ∀ c ∈ cs, 0 ≤ c.s.h) (htn : t ≤ now) : Keep q now (cs.dropWhile (lateB q now)) := by
  have hs := List.dropWhile_sublist (lateB q now) (l := cs)
  have hlen := hs.length_le
  have hsum := sumC_sub hs hge
  have h1 := h.len; have h2 := h.sum
  refine ⟨by omega, by omega, fun c hc => ?_, fun c hc => h.hol c (hs.subset hc), h.srt.sublist hs⟩
  have h3 := h.tb c (hs.subset hc)
  have h4 := drop_late (t := t) (now := now) (q := q) h.srt c hc
  omega
theorem push_ok {q : Qo} (hq : 0 ≤ q.e ∧ 0 ≤ q.b) : ∀ cs : List Cel, overB q (cs.drop (pushN q cs)) = false
  | [] => by
    unfold overB
    simp [sumC]
    omega
  | c :: r => by
    by_cases h : overB q (c :: r) = true
    · rw [pushN, if_pos h, List.drop_succ_cons]
      exact push_ok hq r
    · rw [pushN, if_neg h, List.drop_zero]
      simpa using h
theorem over_no {q : Qo} {cs : List Cel} (h : overB q cs = false) : (cs.length : Int) ≤ q.e ∧ sumC cs ≤ q.b := by
  unfold overB at h
  rw [Bool.or_eq_false_iff, decide_eq_false_iff_not, decide_eq_false_iff_not] at h
  omega
theorem set_erase {α : Type} (x : α) : ∀ (l : List α) (i : Nat), (l.set i x).eraseIdx i = l.eraseIdx i
  | [], _ => by simp
  | a :: r, 0 => by simp
  | a :: r, i + 1 => by simp [set_erase x r i]
def From (q : Qo) (now : Int) (cs : List Cel) (p : Pk) (cs' : List Cel) : Prop :=
  ∀ k c', cs'[k]? = some c' → (∃ c ∈ cs, c.s.k = c'.s.k ∧ c.s.tb = c'.s.tb ∧ now - c.s.tb < q.t) ∨ (k + 1 = cs'.length ∧ c'.s.tb = now ∧ c'.s.k = p)
theorem Keep.renew {q : Qo} {now : Int} {D L : List Cel} {i : Nat} {c c2 : Cel} {p : Pk} (h : Keep q now D) (hq : 0 ≤ q.e ∧ 0 ≤ q.b ∧ 0 ≤ q.h ∧ 1 ≤ q.t) (h0 : 0 ≤ now) {cs1 : List Cel}
    (hc : (cs1 = D ∧ cs1[i]? = some c) ∨ (cs1 = D ++ [c] ∧ i = D.length ∧ c.s.tb = now ∧ c.s.k = p)) (hk : c2.s.k = c.s.k) (ht : c2.s.tb = c.s.tb) (hh : holesN c2.s ≤ q.h) (hL : L = (cs1.set i c2).drop (pushN q (cs1.set i c2))) :
    Keep q now L ∧ From q now D p L := by
  have hov := over_no (push_ok ⟨hq.1, hq.2.1⟩ (cs1.set i c2))
  rw [← hL] at hov
  have hil : i < cs1.length := by
    rcases hc with ⟨rfl, h1⟩ | ⟨rfl, rfl, -, -⟩
    · exact lt_of_get h1
    · simp
  have hci : cs1[i]? = some c := by
    rcases hc with ⟨rfl, h1⟩ | ⟨rfl, rfl, -, -⟩
    · exact h1
    · simp
  have hat : ∀ (j : Nat) (d : Cel), (cs1.set i c2)[j]? = some d → (j ≠ i ∧ cs1[j]? = some d ∧ d ∈ D) ∨ (j = i ∧ d = c2) := fun j d hd => by
    by_cases hji : j = i
    · subst hji
      rw [List.getElem?_set_self hil] at hd
      exact .inr ⟨rfl, (Option.some.inj hd).symm⟩
    · rw [List.getElem?_set_ne (fun e => hji e.symm)] at hd
      refine .inl ⟨hji, hd, ?_⟩
      rcases hc with ⟨rfl, -⟩ | ⟨rfl, rfl, -, -⟩
      · exact List.mem_of_getElem? hd
      · have hjl := lt_of_get hd
        simp at hjl
        rw [List.getElem?_append_left (by omega)] at hd
        exact List.mem_of_getElem? hd
  have hc2 : 0 ≤ c2.s.tb ∧ c2.s.tb ≤ now ∧ now - c2.s.tb < q.t := by
    rw [ht]
    rcases hc with ⟨rfl, h1⟩ | ⟨-, -, h1, -⟩
    · exact h.tb c (List.mem_of_getElem? h1)
    · rw [h1]; omega
  have hmem : ∀ d ∈ L, d ∈ D ∨ d = c2 := fun d hd => by
    rw [hL] at hd
    obtain ⟨j, hj⟩ := List.mem_iff_getElem?.1 (List.mem_of_mem_drop hd)
    rcases hat j d hj with ⟨-, -, h2⟩ | ⟨-, h2⟩
    · exact .inl h2
    · exact .inr h2
  refine ⟨⟨hov.1, hov.2, fun d hd => ?_, fun d hd => ?_, ?_⟩, fun k d hd => ?_⟩
  · rcases hmem d hd with h1 | rfl
    · exact h.tb d h1
    · exact hc2
  · rcases hmem d hd with h1 | rfl
    · exact h.hol d h1
    · exact hh
  · rw [hL]
    refine List.Pairwise.sublist (List.drop_sublist _ _) ?_
    have hs1 : cs1.Pairwise (fun a b => a.s.tb ≤ b.s.tb) := by
      rcases hc with ⟨rfl, -⟩ | ⟨rfl, rfl, h1, -⟩
      · exact h.srt
      · refine List.pairwise_append.2 ⟨h.srt, by simp, fun a ha b hb => ?_⟩
        simp at hb
        subst hb
        rw [h1]; exact (h.tb a ha).2.1
    rw [List.pairwise_iff_getElem] at hs1 ⊢
    intro a b ha hb hab
    have hla : a < cs1.length := by simpa using ha
    have hlb : b < cs1.length := by simpa using hb
    have e : ∀ j (hj : j < cs1.length), ((cs1.set i c2)[j]'(by simpa using hj)).s.tb = (cs1[j]).s.tb := fun j hj => by
      rw [List.getElem_set]
      split
      · rename_i hij
        subst hij
        have h1 : cs1[i]? = some cs1[i] := List.getElem?_eq_getElem hj
        rw [hci] at h1
        rw [ht, ← Option.some.inj h1]
      · rfl
    rw [e a hla, e b hlb]
    exact hs1 a b hla hlb hab
  · rw [hL, List.getElem?_drop] at hd
    have hlL : L.length = (cs1.set i c2).length - pushN q (cs1.set i c2) := by rw [hL, List.length_drop]
    rcases hat _ d hd with ⟨-, -, h2⟩ | ⟨h1, rfl⟩
    · exact .inl ⟨d, h2, rfl, rfl, (h.tb d h2).2.2⟩
    · rcases hc with ⟨rfl, h3⟩ | ⟨rfl, rfl, h3, h4⟩
      · have h5 := List.mem_of_getElem? h3
        exact .inl ⟨c, h5, hk.symm, ht.symm, (h.tb c h5).2.2⟩
      · right
        refine ⟨?_, ht.trans h3, hk.trans h4⟩
        rw [hlL]
        simp only [List.length_set, List.length_append, List.length_singleton]
        omega
theorem Keep.res {q : Qo} {now t : Int} {cs cs' : List Cel} {p : Pk} {n : Int} {wh ks : List Pk} (h : Keep q t cs) (hge : ∀ c ∈ cs, 0 ≤ c.s.h) (hq : 0 ≤ q.e ∧ 0 ≤ q.b ∧ 0 ≤ q.h ∧ 1 ≤ q.t) (htn : t ≤ now) (h0 : 0 ≤ now)
    (hr : Res q now (cs.dropWhile (lateB q now)) p n wh ks cs') : Keep q now cs' ∧ From q now cs p cs' := by
  have hK := h.late (now := now) hge htn
  have hsub := List.dropWhile_sublist (lateB q now) (l := cs)
  obtain ⟨D, hD⟩ : ∃ D, D = cs.dropWhile (lateB q now) := ⟨_, rfl⟩
  rw [← hD] at hr hK hsub
  have hgD : ∀ c ∈ D, 0 ≤ c.s.h := fun c hc => hge c (hsub.subset hc)
  have key : ∀ {M : List Cel}, Keep q now M ∧ From q now D p M → Keep q now M ∧ From q now cs p M := fun {M} hm => ⟨hm.1, fun k d hd => by
    rcases hm.2 k d hd with ⟨c, h1, h2⟩ | h1
    · exact .inl ⟨c, hsub.subset h1, h2⟩
    · exact .inr h1⟩
  have hself : ∀ {M : List Cel}, M.Sublist D → Keep q now M ∧ From q now D p M := fun {M} hm => by
    have h1 := hK.len; have h2 := hK.sum; have h3 := hm.length_le; have h4 := sumC_sub hm hgD
    exact ⟨⟨by omega, by omega, fun c hc => hK.tb c (hm.subset hc), fun c hc => hK.hol c (hm.subset hc), hK.srt.sublist hm⟩,
      fun k d hd => .inl ⟨d, hm.subset (List.mem_of_getElem? hd), rfl, rfl, (hK.tb d (hm.subset (List.mem_of_getElem? hd))).2.2⟩⟩
  apply key
  rcases hr with ⟨-, -, -, -, rfl⟩ | ⟨-, cs1, i, c, fp1, fp2, hcc, htk⟩
  · exact hself (List.Sublist.refl _)
  · have hc : (cs1 = D ∧ cs1[i]? = some c) ∨ (cs1 = D ++ [c] ∧ i = D.length ∧ c.s.tb = now ∧ c.s.k = p) := by
      rcases hcc with ⟨rfl, h1, -⟩ | ⟨-, g, fp, rfl, h1, h2⟩
      · exact .inl ⟨rfl, h1⟩
      · exact .inr ⟨h1, h2, rfl, rfl⟩
    have hkt := put_kt c.s p
    unfold takeC at htk
    split at htk
    · simp only [Tk.mk.injEq] at htk
      obtain ⟨-, -, -, rfl⟩ := htk
      rw [set_erase]
      rcases hc with ⟨rfl, -⟩ | ⟨rfl, rfl, -, -⟩
      · exact hself (List.eraseIdx_sublist _ _)
      · rw [show (D ++ [c]).eraseIdx D.length = D from by rw [List.eraseIdx_append_of_length_le (Nat.le_refl _)]; simp]
        exact hself (List.Sublist.refl _)
    · split at htk
      · simp only [Tk.mk.injEq] at htk
        obtain ⟨-, -, -, hL⟩ := htk
        exact hK.renew hq h0 hc (c2 := ⟨poisS (putS c.s p).2, c.g, fp2⟩) hkt.1 hkt.2 (by simp [holesN, poisS]; exact hq.2.2.1) hL.symm
      · rename_i hno
        simp only [Tk.mk.injEq] at htk
        obtain ⟨-, -, -, hL⟩ := htk
        exact hK.renew hq h0 hc (c2 := ⟨(putS c.s p).2, c.g, fp1⟩) hkt.1 hkt.2 (by simp only; omega) hL.symm
end Go.Proofs.YtkccpidgeecemaaGreatDoor
namespace Go.Proofs.YtkccpidgeecemaaGreatDoor
open Go.ChangeShapes Go.WideShapes Go.ChangeAt Go.RowKit
open S6 (wp_region_cls quiet_val quiet_call quiet_ld ld3 ld4 ld5 ld25 ld26 load28_run load24m_run)
set_option linter.unusedVariables false
set_option linter.unusedSimpArgs false
set_option maxHeartbeats 8000000
set_option maxRecDepth 100000
def RowK (w : World) (a : Option Addr) (ks : List Pk) : Prop := ∀ (i : Nat) (x : Pk), ks[i]? = some x → ∃ b o, a = some ⟨b, o, none⟩ ∧ w.rangeAt b (o + i * 37) (listK x)
theorem RowK.on {w w' : World} {a : Option Addr} {ks : List Pk} (h : RowK w a ks) (hw : Away [] w w') : RowK w' a ks := fun i x hx => by
  obtain ⟨b, o, h1, h2⟩ := h i x hx
  exact ⟨b, o, h1, range_away hw (by simp) h2⟩
theorem emptyB (w : World) : (Instr.buildSlice 37 0 #[]).run Tryz.prog w = .ok (.slice (some ⟨w.heap.size, 0, none⟩) 0 0) (w.alloc (.cells #[] 5)) := by kernel_rfl
theorem emptyB_owns (w : World) : Owns (w.alloc (.cells #[] 5)) (.slice (some ⟨w.heap.size, 0, none⟩) 0 0) [] := World.ownsRow_lit (base := 0) (e := 5) (size := 1) w #[] 0 (Nat.zero_le _) (by decide) rfl
theorem wpList_emptyB {ops : Array Oper} {rest : List Oper} {o : Oper} {a : Act} {w : World} {Q : Exit → Act → World → Prop} (hw : Region.wanted o (yielded ops a.tmps) = true) (ho : o.op = .buildSlice 37 0 #[])
    (h : ∀ g w1, w.heap.size ≤ g → Owns w1 (.slice (some ⟨g, 0, none⟩) 0 0) [] → Away [] w w1 → wpList Tryz.prog ops Q rest (a.put o.dst (.slice (some ⟨g, 0, none⟩) 0 0)) w1) : wpList Tryz.prog ops Q (o :: rest) a w :=
  BigFrame.wpList_want hw fun K hK => by
    unfold Oper.wp execOp
    simp only [ho, List.map_toArray, List.map_nil, emptyB, Sem.run_bind, Result.andThen_ok, Sem.run_pure]
    exact hK _ _ (h _ _ (Nat.le_refl _) (emptyB_owns w) ((Away.refl _ _).alloc _))
theorem wpList_appR {w : World} {ops : Array Oper} {rest : List Oper} {o : Oper} {a : Act} {Q : Exit → Act → World → Prop} (hgd : o.guard = none) (s x : Operand)
    (ho : o.op = .call { callee := .builtin .append, args := #[s, x], argTypes := #[37, 37] }) (v : Value) (l m : List Int) (hs : a.eval s = v) (hown : Owns w v l)
    (xa : Option Addr) (n c : Nat) (hx : a.eval x = .slice xa n c) (hsl : Sl w (.slice xa n c) m) (hlen : l.length + m.length ≤ 140737488355328)
    (h : ∀ v' w', Owns w' v' (l ++ m) → Away v.ownBlock.toList w w' → Moved w v v' → wpList Tryz.prog ops Q rest (a.put o.dst v') w') : wpList Tryz.prog ops Q (o :: rest) a w := by
  obtain ⟨h1, h2, h3, h4⟩ := hsl.of
  cases xa with
  | none =>
    have hc := h3 rfl
    have hn : n = 0 := by omega
    subst hn; subst hc
    have hm : m = [] := List.eq_nil_of_length_eq_zero h1
    subst hm
    refine wpList_app_none hgd s x ho v l hs hown hx ?_
    exact h v w (by rw [List.append_nil]; exact hown) ((Away.refl _ _)) (fun k hk => .inl hk)
  | some ad =>
    refine wpList_app hgd s x ho v l m hs hown ad n c hx h1 (fun j u hj => ?_) (by omega) (fun v' w' r1 r2 r3 => h v' w' r1 ((Away.refl _ w).grown r2 (fun k hk => .inl (by simp [hk]))) r3)
    rcases h4.2.2 with hm | ⟨b, off, e, hc⟩
    · rw [hm] at hj; simp at hj
    · simp only [Option.some.injEq] at e
      subst e
      rw [List.getElem?_map] at hj
      have hj2 : j < m.length := by
        rcases Nat.lt_or_ge j m.length with h | h
        · exact h
        · rw [List.getElem?_eq_none h] at hj; simp at hj
      rw [List.getElem?_eq_getElem hj2] at hj
      simp only [Option.map_some, Option.some.injEq] at hj
      rw [← hj]
      have h5 := hc j hj2
      rw [List.getElem?_eq_getElem hj2] at h5
      by_cases hj0 : j = 0
      · subst hj0; simpa [Addr.add] using h5
      · simpa [Addr.add, hj0] using h5
set_option maxHeartbeats 8000000 in
theorem own_e (w : World) (p : Pk) (ov dv : Value) (hp : Pkt w p ov dv) :
    Calls Tryz.prog 11 #[.agg (csP p ov dv)] w (OwnOut w p) := by
  have HAD : Hid (Ad p) := hp.wf.ad
  have HSL1 := Lib.hid hp.o; have HSL2 := Lib.hid hp.d
  have HLN1 : Hid (p.o.length ≤ 140737488355328) := hp.wf.ol
  have HLN2 : Hid (p.d.length ≤ 140737488355328) := hp.wf.dn
  obtain ⟨oa, on, oc, rfl⟩ : ∃ a n c, ov = .slice a n c := by obtain ⟨a, c, h, -⟩ := hp.o; exact ⟨_, _, _, h⟩
  obtain ⟨da, dn, dc, rfl⟩ : ∃ a n c, dv = .slice a n c := by obtain ⟨a, c, h, -⟩ := hp.d; exact ⟨_, _, _, h⟩
  clear hp
  go_enter Tryz.func11, Tryz.ntmps11
  go_wp2_with (refine wpList_box28 rfl _ rfl p _ _ rfl ?_; refine Hid.out ?_)
  refine Lib.hid ?_
  intro g1 w1 hg1 hb haw
  have HB := Lib.hid hb
  have HA := Lib.hid haw
  have HG1 : Hid (w.heap.size ≤ g1) := hg1
  clear hb haw hg1
  go_wp2_with (refine wpList_alloc28 rfl rfl ?_; refine Hid.out ?_)
  refine Lib.hid ?_
  intro g2 w2 hg2 hb haw
  have HB2 := Lib.hid hb
  have HG2 : Hid (w.heap.size ≤ g2) := Nat.le_trans HA.out.size hg2
  have HG12 : Hid (g2 ≠ g1) := fun e => by have := HB.out.lt; omega
  replace HB := Lib.hid (HB.out.on haw)
  replace HA := Lib.hid (HA.out.trans haw)
  have HL12 : Hid (g1 < w2.heap.size ∧ g2 < w2.heap.size) := ⟨HB.out.lt, HB2.out.lt⟩
  have HW2 : Hid (w.heap.size ≤ w2.heap.size) := HA.out.size
  clear hb haw hg2
  go_wp2_with (refine wpList_emptyB rfl rfl ?_; refine Hid.out ?_)
  refine Lib.hid ?_
  intro e1 x1 hge howe haw
  have HE := Lib.hid howe
  have HGE : Hid (∀ z, (Value.slice (some ⟨e1, 0, none⟩) 0 0).ownBlock = some z → w2.heap.size ≤ z) := fun z hz => by simp [Value.ownBlock] at hz; omega
  have HX1 : Hid (w2.heap.size ≤ x1.heap.size) := haw.size
  replace HB := Lib.hid (HB.out.on haw)
  replace HB2 := Lib.hid (HB2.out.on haw)
  replace HA := Lib.hid (HA.out.trans haw)
  clear howe haw hge
  have c44 := (HB.out.cells (by exact HAD.out)).o
  have HS := Lib.hid (HSL1.out.on HA.out)
  go_wp2_with (at_builtin; refine wpList_appR rfl _ _ rfl (.slice (some ⟨e1, 0, none⟩) 0 0) [] p.o rfl (by exact HE.out) _ _ _ rfl (by exact HS.out) (by simp; exact HLN1.out) ?_; refine Hid.out ?_)
  refine Lib.hid ?_
  intro v1 z1 hown haw hmv
  replace hown : Owns z1 v1 p.o := hown
  obtain ⟨a1, n1, c1', rfl⟩ := hown.shp
  have HO1 := Lib.hid hown
  have HN1 : Hid (∀ z, (Value.slice a1 n1 c1').ownBlock = some z → w2.heap.size ≤ z) := fun z hz => by
    rcases hmv z hz with h | h
    · exact HGE.out z h
    · have := HX1.out; omega
  have hnn : ∀ z ∈ (Value.slice (some ⟨e1, 0, none⟩) 0 0).ownBlock.toList, w2.heap.size ≤ z := fun z hz => HGE.out z (by simpa using hz)
  replace HB := Lib.hid (HB.out.away haw (fun hm => by have h1 := hnn _ hm; have h2 := HL12.out; omega))
  replace HB2 := Lib.hid (HB2.out.away haw (fun hm => by have h1 := hnn _ hm; have h2 := HL12.out; omega))
  have HZ1 : Hid (w2.heap.size ≤ z1.heap.size) := Nat.le_trans HX1.out haw.size
  replace HA : Hid (Away [] w z1) := HA.out.next haw (fun z hz => .inr (by have h1 := hnn z hz; have h2 := HW2.out; omega))
  clear hnn
  clear hown haw hmv HS HE c44
  go_wp2_with (refine wpList_putF rfl 37 _ _ rfl g1 44 rfl (.slice a1 n1 c1') rfl (fun u h1 h2 => put26 _ _ _ _ _ u h1 h2) p p (.slice oa on oc) (.slice da dn dc) (.slice a1 n1 c1') (.slice da dn dc) (by exact HB.out) (by exact HAD.out) (by omega) (by exact (csP_set (p := p) (by exact HAD.out) _ _).2.2.2.2.2.2.2.2.2.2.2.2.1 p.o _) ?_; refine Hid.out ?_)
  refine Lib.hid ?_
  intro y1 hb haw
  replace HB : Hid (BoxP y1 g1 p (.slice a1 n1 c1') (.slice da dn dc)) := hb
  replace HO1 := Lib.hid (HO1.out.away haw (fun z hz hm => by simp at hm; have h1 := HN1.out z hz; have h2 := HL12.out; omega))
  replace HB2 := Lib.hid (HB2.out.away haw (by simp; exact HG12.out))
  have HL1 : Hid (∀ z, (Value.slice a1 n1 c1').ownBlock = some z → z < y1.heap.size) := HO1.out.lt
  have HWY : Hid (w2.heap.size ≤ y1.heap.size) := Nat.le_trans HZ1.out haw.size
  replace HA : Hid (Away [] w y1) := HA.out.next haw (fun x hx => .inr (by simp at hx; subst hx; exact HG1.out))
  clear hb haw
  go_wp2_with (refine wpList_emptyB rfl rfl ?_; refine Hid.out ?_)
  refine Lib.hid ?_
  intro e2 x2 hge howe haw
  have HE := Lib.hid howe
  have HGE : Hid (∀ z, (Value.slice (some ⟨e2, 0, none⟩) 0 0).ownBlock = some z → y1.heap.size ≤ z) := fun z hz => by simp [Value.ownBlock] at hz; omega
  have HX2 : Hid (y1.heap.size ≤ x2.heap.size) := haw.size
  replace HB := Lib.hid (HB.out.on haw)
  replace HB2 := Lib.hid (HB2.out.on haw)
  replace HA := Lib.hid (HA.out.trans haw)
  replace HO1 := Lib.hid (HO1.out.away haw (by simp))
  clear howe haw hge
  have c45 := (HB.out.cells (by exact HAD.out)).d
  have HS := Lib.hid (HSL2.out.on HA.out)
  go_wp2_with (at_builtin; refine wpList_appR rfl _ _ rfl (.slice (some ⟨e2, 0, none⟩) 0 0) [] p.d rfl (by exact HE.out) _ _ _ rfl (by exact HS.out) (by simp; exact HLN2.out) ?_; refine Hid.out ?_)
  refine Lib.hid ?_
  intro v2 z2 hown haw hmv
  replace hown : Owns z2 v2 p.d := hown
  obtain ⟨a2, n2, c2', rfl⟩ := hown.shp
  have HO2 := Lib.hid hown
  have HN2 : Hid (∀ z, (Value.slice a2 n2 c2').ownBlock = some z → y1.heap.size ≤ z) := fun z hz => by
    rcases hmv z hz with h | h
    · exact HGE.out z h
    · have := HX2.out; omega
  have hnn : ∀ z ∈ (Value.slice (some ⟨e2, 0, none⟩) 0 0).ownBlock.toList, y1.heap.size ≤ z := fun z hz => HGE.out z (by simpa using hz)
  replace HB := Lib.hid (HB.out.away haw (fun hm => by have h1 := hnn _ hm; have h2 := HL12.out; have h3 := HWY.out; omega))
  replace HB2 := Lib.hid (HB2.out.away haw (fun hm => by have h1 := hnn _ hm; have h2 := HL12.out; have h3 := HWY.out; omega))
  replace HO1 := Lib.hid (HO1.out.away haw (fun z hz hm => by have h1 := hnn _ hm; have h2 := HL1.out z hz; omega))
  replace HA : Hid (Away [] w z2) := HA.out.next haw (fun z hz => .inr (by have h1 := hnn z hz; have h2 := HW2.out; have h3 := HWY.out; omega))
  clear hnn
  clear hown haw hmv HS HE c45
  have HAP : Hid (∀ z, (Value.slice a1 n1 c1').ownBlock = some z → (Value.slice a2 n2 c2').ownBlock ≠ some z) := fun z h1 h2 => by have h3 := HL1.out z h1; have h4 := HN2.out z h2; omega
  go_wp2_with (refine wpList_putF rfl 37 _ _ rfl g1 45 rfl (.slice a2 n2 c2') rfl (fun u h1 h2 => put26 _ _ _ _ _ u h1 h2) p p (.slice a1 n1 c1') (.slice da dn dc) (.slice a1 n1 c1') (.slice a2 n2 c2') (by exact HB.out) (by exact HAD.out) (by omega) (by exact (csP_set (p := p) (by exact HAD.out) _ _).2.2.2.2.2.2.2.2.2.2.2.2.2 p.d _) ?_; refine Hid.out ?_)
  refine Lib.hid ?_
  intro y2 hb haw
  replace HB : Hid (BoxP y2 g1 p (.slice a1 n1 c1') (.slice a2 n2 c2')) := hb
  replace HO1 := Lib.hid (HO1.out.away haw (fun z hz hm => by simp at hm; have h1 := HN1.out z hz; have h2 := HL12.out; omega))
  replace HO2 := Lib.hid (HO2.out.away haw (fun z hz hm => by simp at hm; have h1 := HN2.out z hz; have h2 := HL12.out; have h3 := HWY.out; omega))
  replace HB2 := Lib.hid (HB2.out.away haw (by simp; exact HG12.out))
  replace HA : Hid (Away [] w y2) := HA.out.next haw (fun x hx => .inr (by simp at hx; subst hx; exact HG1.out))
  clear hb haw
  go_wp2_with (first
    | (refine wpList_load28 rfl _ rfl g1 rfl p _ _ (by exact HB.out) (by exact HAD.out) ?_)
    | (refine wpList_store28 rfl _ _ rfl g2 rfl p (.slice a1 n1 c1') (.slice a2 n2 c2') rfl zeroPk (.slice none 0 0) (.slice none 0 0) (by exact HB2.out) (by exact HAD.out) ⟨rfl, rfl⟩ rfl rfl ?_; refine Hid.out ?_))
  refine Lib.hid ?_
  intro y3 hb haw
  have HB3 := Lib.hid hb
  replace HO1 := Lib.hid (HO1.out.away haw (fun z hz hm => by simp at hm; have h1 := HN1.out z hz; have h2 := HL12.out; omega))
  replace HO2 := Lib.hid (HO2.out.away haw (fun z hz hm => by simp at hm; have h1 := HN2.out z hz; have h2 := HL12.out; have h3 := HWY.out; omega))
  have HA3 : Hid (Away [] w y3) := HA.out.next haw (fun x hx => .inr (by simp at hx; subst hx; exact HG2.out))
  clear hb haw
  go_wp2_with fail
  exact bodyPost_ret (result28 rfl _ _ _ _ _ _ rfl HB3.out HAD.out) rfl ⟨_, _, rfl, ⟨HO1.out, HO2.out, fun z hz => Nat.le_trans HW2.out (HN1.out z hz), fun z hz => Nat.le_trans (Nat.le_trans HW2.out HWY.out) (HN2.out z hz), HAP.out⟩, HA3.out⟩
theorem csP_sb {p : Pk} (ov dv : Value) (i : Nat) (hi : i < p.sb.length) (x : Int) : (csP p ov dv).setIfInBounds (4 + i) (.int .u8 x) = csP { p with sb := p.sb.set i x } ov dv := by
  apply Array.ext'
  rw [Array.toList_setIfInBounds]
  show (listP p ov dv).set (4 + i) (.int .u8 x) = listP { p with sb := p.sb.set i x } ov dv
  unfold listP cellsA
  simp only [List.cons_append]
  rw [show 4 + i = i + 1 + 1 + 1 + 1 from by omega, List.set_cons_succ, List.set_cons_succ, List.set_cons_succ, List.set_cons_succ, List.set_append_left _ _ (by simpa using hi), List.map_set]
theorem csP_db {p : Pk} (ha : p.sb.length = 16) (ov dv : Value) (i : Nat) (hi : i < p.db.length) (x : Int) : (csP p ov dv).setIfInBounds (21 + i) (.int .u8 x) = csP { p with db := p.db.set i x } ov dv := by
  apply Array.ext'
  rw [Array.toList_setIfInBounds]
  show (listP p ov dv).set (21 + i) (.int .u8 x) = listP { p with db := p.db.set i x } ov dv
  unfold listP cellsA
  simp only [List.cons_append]
  rw [show 21 + i = i + 1 + 16 + 1 + 1 + 1 + 1 from by omega, List.set_cons_succ, List.set_cons_succ, List.set_cons_succ, List.set_cons_succ, List.set_append_right _ _ (by simp [ha]), show i + 1 + 16 - (List.map (Value.int .u8) p.sb).length = i + 1 from by simp [ha], List.set_cons_succ, List.set_append_left _ _ (by simpa using hi), List.map_set]
theorem put5 (w : World) (ad : Addr) (n : Int) (u : Value) (hc : w.cell? ad = some u) (hf : w.frozen? ad = false) : (Instr.storeAt 5 (.pointer (some ad)) (.int .u8 n)).run Tryz.prog w = .ok () (w.setCell ad (.int .u8 n)) := by
  simp [go_sem, Instr.storeAt, Instr.sureAddr, storeVar, hc, hf]
theorem owns_head {w : World} {a : Option Addr} {n cap : Nat} {l : List Int} (h : Owns w (.slice a n cap) l) (k : Nat) (hk : k ≤ l.length) : Owns w (.slice a k cap) (l.take k) := by
  rcases h.2 with ⟨h2, h3⟩ | ⟨g, cap', cur, he, hg, hh, hn, hc, hs, ht⟩
  · simp only [Value.slice.injEq] at h2
    obtain ⟨rfl, rfl, rfl⟩ := h2
    have h4 : l = [] := by simpa using h3
    subst h4
    have : k = 0 := by simpa using hk
    subst this
    exact Owns.nil _
  · simp only [Value.slice.injEq] at he
    obtain ⟨rfl, -, rfl⟩ := he
    have hlen : ((l.take k).map (Value.int .u8)).length = k := by rw [List.length_map, List.length_take]; omega
    refine ⟨by rw [hlen]; simp, .inr ⟨g, cap, cur, by rw [hlen], hg, hh, by rw [hlen]; simp at hn; omega, hc, hs, ?_⟩⟩
    rw [hlen]
    simp only [List.length_map, Nat.mul_one] at ht ⊢
    rw [List.map_take, ← ht, List.take_take, Nat.min_eq_left hk]
structure Zr4 (l : List Int) (k : Nat) : Prop where
  len : l.length = 16
  by' : Bytes l
  no : ∀ i : Nat, 4 ≤ i → i < k → l[i]? = some 0
theorem Zr4.set {l : List Int} {k : Nat} (h : Zr4 l k) (hk : k < 16) : Zr4 (l.set k 0) (k + 1) := by
  refine ⟨by rw [List.length_set]; exact h.len, fun b hb => ?_, fun i h1 h2 => ?_⟩
  · rcases List.mem_or_eq_of_mem_set hb with h3 | rfl
    · exact h.by' b h3
    · omega
  · by_cases he : i = k
    · subst he; rw [List.getElem?_set_self (by rw [h.len]; exact hk)]
    · rw [List.getElem?_set_ne (fun e => he e.symm)]; exact h.no i h1 (by omega)
theorem Zr4.fin {l : List Int} (h : Zr4 l 16) : l.drop 4 = z12 := by
  apply List.ext_getElem?
  intro i
  rw [List.getElem?_drop]
  by_cases hi : i < 12
  · rw [h.no (4 + i) (by omega) (by omega)]
    have : z12 = List.replicate 12 0 := rfl
    rw [this, List.getElem?_replicate, if_pos hi]
  · rw [List.getElem?_eq_none (by rw [h.len]; omega), List.getElem?_eq_none (by simp [z12]; omega)]
theorem u32_wrap (n : Int) : IntKind.u32.wrap n = n % 4294967296 := rfl
def WholeOut (w : World) (E : Ending) (w' : World) : Prop := ∃ q dv, E = .returned (.agg (csP q (.slice none 0 0) dv)) ∧ rgt2 q = true ∧ Wf q ∧ (q.v = 4 ∨ q.v = 6) ∧ q.off = 0 ∧ q.more = false ∧ q.frag = false ∧ q.df = false ∧ q.o = [] ∧ q.d.length ≤ 4000 ∧ Mine w' w.heap.size q (.slice none 0 0) dv ∧ Away [] w w'
theorem u64_pos (n : Int) : 0 ≤ IntKind.u64.wrap n := by
  have : IntKind.u64.wrap n = n % 18446744073709551616 := rfl
  rw [this]; omega
set_option maxHeartbeats 16000000 in
theorem whole_e (w : World) (p : Pk) (ov dv : Value) (hp : Pkt w p ov dv) :
    Calls Tryz.prog 20 #[.agg (csP p ov dv)] w (WholeOut w) := by
  have HPW := Lib.hid hp.wf
  have HP := Lib.hid hp
  clear hp
  go_enter Tryz.func20, Tryz.ntmps20
  go_wp2_with (first
    | (refine wpList_box28 rfl _ rfl p _ _ rfl ?_; refine Hid.out ?_)
    | (refine wpList_alloc28 rfl rfl ?_; refine Hid.out ?_))
  refine Lib.hid ?_
  intro g1 w1 hg1 hb haw
  have HB := Lib.hid hb
  have HA := Lib.hid haw
  have HG1 : Hid (w.heap.size ≤ g1) := hg1
  clear hb haw hg1
  go_wp2_with (refine wpList_alloc28 rfl rfl ?_; refine Hid.out ?_)
  refine Lib.hid ?_
  intro g2 w2 hg2 hb haw
  have HB2 := Lib.hid hb
  have HG2 : Hid (w.heap.size ≤ g2) := Nat.le_trans HA.out.size hg2
  have HG12 : Hid (g2 ≠ g1) := fun e => by have := HB.out.lt; omega
  replace HB := Lib.hid (HB.out.on haw)
  replace HA := Lib.hid (HA.out.trans haw)
  clear hb haw hg2
  have HPA : Hid (Ad p) := HPW.out.ad
  have K1 := Lib.hid (own_e w2 p ov dv (HP.out.on HA.out))
  unfold OwnOut at K1
  go_wp2_with (first
    | (refine wpList_load28 rfl _ rfl g1 rfl p _ _ (by exact HB.out) HPA.out ?_)
    | (go_at_call 11; refine K1.out.mono ?_; refine Hid.out ?_))
  refine Lib.hid ?_
  first
    | rintro E w3 vo vd rfl hmi haw
    | rintro E w3 ⟨vo, vd, rfl, hmi, haw⟩
  obtain ⟨oa, on, oc, rfl⟩ := hmi.o.shp
  obtain ⟨da, dn, dc, rfl⟩ := hmi.d.shp
  have hdn : p.d.length = dn := (hmi.d.sl HPW.out.d HPW.out.dn).of.1
  have HDN := Lib.hid hdn
  have hdc : dn ≤ dc := (hmi.d.sl HPW.out.d HPW.out.dn).of.2.1
  have hdn2 : dn ≤ 140737488355328 := by rw [← hdn]; exact HPW.out.dn
  have HLT := Lib.hid hmi.lto
  have hg12 := HB.out.lt
  have HNG : Hid (∀ z, (Value.slice oa on oc).ownBlock = some z ∨ (Value.slice da dn dc).ownBlock = some z → z ≠ g1) := fun z hz e => by have := (HLT.out z hz).2; omega
  have HNG2 : Hid (∀ z, (Value.slice oa on oc).ownBlock = some z ∨ (Value.slice da dn dc).ownBlock = some z → z ≠ g2) := fun z hz e => by have := (HLT.out z hz).2; have := HB2.out.lt; omega
  have HM := Lib.hid (hmi.mono HA.out.size)
  replace HB := Lib.hid (HB.out.on haw)
  replace HB2 := Lib.hid (HB2.out.on haw)
  replace HA := Lib.hid (HA.out.trans haw)
  clear hmi haw K1 hg12 hdn HLT HP
  go_wp2_with (refine wpList_store28 rfl _ _ rfl g1 rfl p (.slice oa on oc) (.slice da dn dc) rfl p _ _ (by exact HB.out) HPA.out HPA.out rfl rfl ?_; refine Hid.out ?_)
  refine Lib.hid ?_
  intro y0 hb haw
  replace HB := Lib.hid hb
  replace HM := Lib.hid (HM.out.away haw (fun z hz => by simp; exact HNG.out z hz))
  replace HB2 := Lib.hid (HB2.out.away haw (by simp; exact HG12.out))
  replace HA : Hid (Away [] w y0) := HA.out.next haw (fun x hx => .inr (by simp at hx; subst hx; exact HG1.out))
  clear hb haw
  have HAD : Hid (p.sb.length = 16 ∧ p.db.length = 16) := HPA.out
  have c0 := (HB.out.cells HPA.out).v
  obtain ⟨v0, hv0, bv0⟩ : ∃ z : Int, Int.tmod (IntKind.u64.wrap p.v) 4 = z ∧ 0 ≤ z ∧ z < 4 := ⟨_, rfl, by
    have h : 0 ≤ IntKind.u64.wrap p.v := u64_pos _
    exact ⟨Int.tmod_nonneg _ h, Int.tmod_lt_of_pos _ (by omega)⟩⟩
  have iv0 : IntKind.i64.wrap v0 = v0 := by rw [IntKind.wrap_i64]; omega
  obtain ⟨u, hu, bu⟩ : ∃ u : Int, v0.tdiv 2 = u ∧ (u = 0 ∨ u = 1) := ⟨_, rfl, by
    obtain rfl | rfl | rfl | rfl : v0 = 0 ∨ v0 = 1 ∨ v0 = 2 ∨ v0 = 3 := by omega
    all_goals decide⟩
  obtain ⟨u2, hu2, bu2⟩ : ∃ z : Int, IntKind.i64.wrap (u * 2) = z ∧ z = u * 2 := ⟨_, rfl, by rw [IntKind.wrap_i64]; omega⟩
  obtain ⟨V, hV, bV⟩ : ∃ z : Int, IntKind.i64.wrap (4 + u2) = z ∧ (z = 4 ∨ z = 6) := ⟨_, rfl, by rw [IntKind.wrap_i64]; omega⟩
  have iu : IntKind.i64.wrap u = u := by rw [IntKind.wrap_i64]; omega
  have HVB := Lib.hid bV
  have HBU := Lib.hid bu; have HBU2 := Lib.hid bu2; have HBV0 := Lib.hid bv0
  clear bV bu bu2 bv0
  go_wp2_with (refine wpList_putF rfl 3 _ _ rfl g1 0 rfl (.int .i64 V) rfl (fun u h1 h2 => put3 _ _ _ u h1 h2) (⟨p.v, p.tos, p.flow, p.sv, p.sb, p.dv, p.db, p.proto, p.ttl, p.id, p.df, p.more, p.frag, p.off, p.o, p.d⟩ : Pk) (⟨V, p.tos, p.flow, p.sv, p.sb, p.dv, p.db, p.proto, p.ttl, p.id, p.df, p.more, p.frag, p.off, p.o, p.d⟩ : Pk) (.slice oa on oc) (.slice da dn dc) (.slice oa on oc) (.slice da dn dc) (by exact HB.out) (by exact HAD.out) (by omega) (by exact (csP_set (p := (⟨p.v, p.tos, p.flow, p.sv, p.sb, p.dv, p.db, p.proto, p.ttl, p.id, p.df, p.more, p.frag, p.off, p.o, p.d⟩ : Pk)) (by exact HAD.out) _ _).1 _) ?_; refine Hid.out ?_)
  refine Lib.hid ?_
  intro y1 hb haw
  replace HB : Hid (BoxP y1 g1 (⟨V, p.tos, p.flow, p.sv, p.sb, p.dv, p.db, p.proto, p.ttl, p.id, p.df, p.more, p.frag, p.off, p.o, p.d⟩ : Pk) (.slice oa on oc) (.slice da dn dc)) := hb
  replace HM := Lib.hid (HM.out.away haw (fun z hz => by simp; exact HNG.out z hz))
  replace HB2 := Lib.hid (HB2.out.away haw (by simp; exact HG12.out))
  replace HA : Hid (Away [] w y1) := HA.out.next haw (fun x hx => .inr (by simp at hx; subst hx; exact HG1.out))
  clear hb haw
  clear hv0 hu hu2 hV iv0 iu c0 HBU HBU2 HBV0
  have c0 := (HB.out.cells (by exact HAD.out)).v
  go_wp2_with (refine wpList_putF rfl 3 _ _ rfl g1 3 rfl (.int .i64 V) rfl (fun u h1 h2 => put3 _ _ _ u h1 h2) (⟨V, p.tos, p.flow, p.sv, p.sb, p.dv, p.db, p.proto, p.ttl, p.id, p.df, p.more, p.frag, p.off, p.o, p.d⟩ : Pk) (⟨V, p.tos, p.flow, V, p.sb, p.dv, p.db, p.proto, p.ttl, p.id, p.df, p.more, p.frag, p.off, p.o, p.d⟩ : Pk) (.slice oa on oc) (.slice da dn dc) (.slice oa on oc) (.slice da dn dc) (by exact HB.out) (by exact HAD.out) (by omega) (by exact (csP_set (p := (⟨V, p.tos, p.flow, p.sv, p.sb, p.dv, p.db, p.proto, p.ttl, p.id, p.df, p.more, p.frag, p.off, p.o, p.d⟩ : Pk)) (by exact HAD.out) _ _).2.2.2.1 _) ?_; refine Hid.out ?_)
  refine Lib.hid ?_
  intro y2 hb haw
  replace HB : Hid (BoxP y2 g1 (⟨V, p.tos, p.flow, V, p.sb, p.dv, p.db, p.proto, p.ttl, p.id, p.df, p.more, p.frag, p.off, p.o, p.d⟩ : Pk) (.slice oa on oc) (.slice da dn dc)) := hb
  replace HM := Lib.hid (HM.out.away haw (fun z hz => by simp; exact HNG.out z hz))
  replace HB2 := Lib.hid (HB2.out.away haw (by simp; exact HG12.out))
  replace HA : Hid (Away [] w y2) := HA.out.next haw (fun x hx => .inr (by simp at hx; subst hx; exact HG1.out))
  clear hb haw
  have c0 := (HB.out.cells (by exact HAD.out)).v
  go_wp2_with (refine wpList_putF rfl 3 _ _ rfl g1 20 rfl (.int .i64 V) rfl (fun u h1 h2 => put3 _ _ _ u h1 h2) (⟨V, p.tos, p.flow, V, p.sb, p.dv, p.db, p.proto, p.ttl, p.id, p.df, p.more, p.frag, p.off, p.o, p.d⟩ : Pk) (⟨V, p.tos, p.flow, V, p.sb, V, p.db, p.proto, p.ttl, p.id, p.df, p.more, p.frag, p.off, p.o, p.d⟩ : Pk) (.slice oa on oc) (.slice da dn dc) (.slice oa on oc) (.slice da dn dc) (by exact HB.out) (by exact HAD.out) (by omega) (by exact (csP_set (p := (⟨V, p.tos, p.flow, V, p.sb, p.dv, p.db, p.proto, p.ttl, p.id, p.df, p.more, p.frag, p.off, p.o, p.d⟩ : Pk)) (by exact HAD.out) _ _).2.2.2.2.1 _) ?_; refine Hid.out ?_)
  refine Lib.hid ?_
  intro y3 hb haw
  replace HB : Hid (BoxP y3 g1 (⟨V, p.tos, p.flow, V, p.sb, V, p.db, p.proto, p.ttl, p.id, p.df, p.more, p.frag, p.off, p.o, p.d⟩ : Pk) (.slice oa on oc) (.slice da dn dc)) := hb
  replace HM := Lib.hid (HM.out.away haw (fun z hz => by simp; exact HNG.out z hz))
  replace HB2 := Lib.hid (HB2.out.away haw (by simp; exact HG12.out))
  replace HA : Hid (Away [] w y3) := HA.out.next haw (fun x hx => .inr (by simp at hx; subst hx; exact HG1.out))
  clear hb haw
  clear c0
  have cc := (HB.out.cells (by exact HAD.out)).tos
  obtain ⟨T0, hT0, bT0⟩ : ∃ z : Int, Int.tmod (IntKind.u64.wrap p.tos) 256 = z ∧ 0 ≤ z ∧ z < 256 := ⟨_, rfl, by
    have h : 0 ≤ IntKind.u64.wrap p.tos := u64_pos _
    exact ⟨Int.tmod_nonneg _ h, Int.tmod_lt_of_pos _ (by omega)⟩⟩
  have iT0 : IntKind.i64.wrap T0 = T0 := by rw [IntKind.wrap_i64]; omega
  have HCT0 := Lib.hid bT0
  clear bT0
  go_wp2_with (refine wpList_putF rfl 3 _ _ rfl g1 1 rfl (.int .i64 T0) rfl (fun u h1 h2 => put3 _ _ _ u h1 h2) (⟨V, p.tos, p.flow, V, p.sb, V, p.db, p.proto, p.ttl, p.id, p.df, p.more, p.frag, p.off, p.o, p.d⟩ : Pk) (⟨V, T0, p.flow, V, p.sb, V, p.db, p.proto, p.ttl, p.id, p.df, p.more, p.frag, p.off, p.o, p.d⟩ : Pk) (.slice oa on oc) (.slice da dn dc) (.slice oa on oc) (.slice da dn dc) (by exact HB.out) (by exact HAD.out) (by omega) (by exact (csP_set (p := (⟨V, p.tos, p.flow, V, p.sb, V, p.db, p.proto, p.ttl, p.id, p.df, p.more, p.frag, p.off, p.o, p.d⟩ : Pk)) (by exact HAD.out) _ _).2.1 _) ?_; refine Hid.out ?_)
  refine Lib.hid ?_
  intro y4 hb haw
  replace HB : Hid (BoxP y4 g1 (⟨V, T0, p.flow, V, p.sb, V, p.db, p.proto, p.ttl, p.id, p.df, p.more, p.frag, p.off, p.o, p.d⟩ : Pk) (.slice oa on oc) (.slice da dn dc)) := hb
  replace HM := Lib.hid (HM.out.away haw (fun z hz => by simp; exact HNG.out z hz))
  replace HB2 := Lib.hid (HB2.out.away haw (by simp; exact HG12.out))
  replace HA : Hid (Away [] w y4) := HA.out.next haw (fun x hx => .inr (by simp at hx; subst hx; exact HG1.out))
  clear hb haw
  clear cc hT0 iT0
  have cc := (HB.out.cells (by exact HAD.out)).flow
  obtain ⟨F0, hF0, bF0⟩ : ∃ z : Int, Int.tmod (IntKind.u64.wrap p.flow) 1048576 = z ∧ 0 ≤ z ∧ z < 1048576 := ⟨_, rfl, by
    have h : 0 ≤ IntKind.u64.wrap p.flow := u64_pos _
    exact ⟨Int.tmod_nonneg _ h, Int.tmod_lt_of_pos _ (by omega)⟩⟩
  have iF0 : IntKind.i64.wrap F0 = F0 := by rw [IntKind.wrap_i64]; omega
  have HCF0 := Lib.hid bF0
  clear bF0
  go_wp2_with (refine wpList_putF rfl 3 _ _ rfl g1 2 rfl (.int .i64 F0) rfl (fun u h1 h2 => put3 _ _ _ u h1 h2) (⟨V, T0, p.flow, V, p.sb, V, p.db, p.proto, p.ttl, p.id, p.df, p.more, p.frag, p.off, p.o, p.d⟩ : Pk) (⟨V, T0, F0, V, p.sb, V, p.db, p.proto, p.ttl, p.id, p.df, p.more, p.frag, p.off, p.o, p.d⟩ : Pk) (.slice oa on oc) (.slice da dn dc) (.slice oa on oc) (.slice da dn dc) (by exact HB.out) (by exact HAD.out) (by omega) (by exact (csP_set (p := (⟨V, T0, p.flow, V, p.sb, V, p.db, p.proto, p.ttl, p.id, p.df, p.more, p.frag, p.off, p.o, p.d⟩ : Pk)) (by exact HAD.out) _ _).2.2.1 _) ?_; refine Hid.out ?_)
  refine Lib.hid ?_
  intro y5 hb haw
  replace HB : Hid (BoxP y5 g1 (⟨V, T0, F0, V, p.sb, V, p.db, p.proto, p.ttl, p.id, p.df, p.more, p.frag, p.off, p.o, p.d⟩ : Pk) (.slice oa on oc) (.slice da dn dc)) := hb
  replace HM := Lib.hid (HM.out.away haw (fun z hz => by simp; exact HNG.out z hz))
  replace HB2 := Lib.hid (HB2.out.away haw (by simp; exact HG12.out))
  replace HA : Hid (Away [] w y5) := HA.out.next haw (fun x hx => .inr (by simp at hx; subst hx; exact HG1.out))
  clear hb haw
  clear cc hF0 iF0
  have cc := (HB.out.cells (by exact HAD.out)).proto
  obtain ⟨R0, hR0, bR0⟩ : ∃ z : Int, Int.tmod (IntKind.u64.wrap p.proto) 44 = z ∧ 0 ≤ z ∧ z < 44 := ⟨_, rfl, by
    have h : 0 ≤ IntKind.u64.wrap p.proto := u64_pos _
    exact ⟨Int.tmod_nonneg _ h, Int.tmod_lt_of_pos _ (by omega)⟩⟩
  have iR0 : IntKind.i64.wrap R0 = R0 := by rw [IntKind.wrap_i64]; omega
  have HCR0 := Lib.hid bR0
  clear bR0
  go_wp2_with (refine wpList_putF rfl 3 _ _ rfl g1 37 rfl (.int .i64 R0) rfl (fun u h1 h2 => put3 _ _ _ u h1 h2) (⟨V, T0, F0, V, p.sb, V, p.db, p.proto, p.ttl, p.id, p.df, p.more, p.frag, p.off, p.o, p.d⟩ : Pk) (⟨V, T0, F0, V, p.sb, V, p.db, R0, p.ttl, p.id, p.df, p.more, p.frag, p.off, p.o, p.d⟩ : Pk) (.slice oa on oc) (.slice da dn dc) (.slice oa on oc) (.slice da dn dc) (by exact HB.out) (by exact HAD.out) (by omega) (by exact (csP_set (p := (⟨V, T0, F0, V, p.sb, V, p.db, p.proto, p.ttl, p.id, p.df, p.more, p.frag, p.off, p.o, p.d⟩ : Pk)) (by exact HAD.out) _ _).2.2.2.2.2.1 _) ?_; refine Hid.out ?_)
  refine Lib.hid ?_
  intro y6 hb haw
  replace HB : Hid (BoxP y6 g1 (⟨V, T0, F0, V, p.sb, V, p.db, R0, p.ttl, p.id, p.df, p.more, p.frag, p.off, p.o, p.d⟩ : Pk) (.slice oa on oc) (.slice da dn dc)) := hb
  replace HM := Lib.hid (HM.out.away haw (fun z hz => by simp; exact HNG.out z hz))
  replace HB2 := Lib.hid (HB2.out.away haw (by simp; exact HG12.out))
  replace HA : Hid (Away [] w y6) := HA.out.next haw (fun x hx => .inr (by simp at hx; subst hx; exact HG1.out))
  clear hb haw
  clear cc hR0 iR0
  have cc := (HB.out.cells (by exact HAD.out)).ttl
  obtain ⟨L0, hL0, bL0⟩ : ∃ z : Int, Int.tmod (IntKind.u64.wrap p.ttl) 256 = z ∧ 0 ≤ z ∧ z < 256 := ⟨_, rfl, by
    have h : 0 ≤ IntKind.u64.wrap p.ttl := u64_pos _
    exact ⟨Int.tmod_nonneg _ h, Int.tmod_lt_of_pos _ (by omega)⟩⟩
  have iL0 : IntKind.i64.wrap L0 = L0 := by rw [IntKind.wrap_i64]; omega
  have HCL0 := Lib.hid bL0
  clear bL0
  go_wp2_with (refine wpList_putF rfl 3 _ _ rfl g1 38 rfl (.int .i64 L0) rfl (fun u h1 h2 => put3 _ _ _ u h1 h2) (⟨V, T0, F0, V, p.sb, V, p.db, R0, p.ttl, p.id, p.df, p.more, p.frag, p.off, p.o, p.d⟩ : Pk) (⟨V, T0, F0, V, p.sb, V, p.db, R0, L0, p.id, p.df, p.more, p.frag, p.off, p.o, p.d⟩ : Pk) (.slice oa on oc) (.slice da dn dc) (.slice oa on oc) (.slice da dn dc) (by exact HB.out) (by exact HAD.out) (by omega) (by exact (csP_set (p := (⟨V, T0, F0, V, p.sb, V, p.db, R0, p.ttl, p.id, p.df, p.more, p.frag, p.off, p.o, p.d⟩ : Pk)) (by exact HAD.out) _ _).2.2.2.2.2.2.1 _) ?_; refine Hid.out ?_)
  refine Lib.hid ?_
  intro y7 hb haw
  replace HB : Hid (BoxP y7 g1 (⟨V, T0, F0, V, p.sb, V, p.db, R0, L0, p.id, p.df, p.more, p.frag, p.off, p.o, p.d⟩ : Pk) (.slice oa on oc) (.slice da dn dc)) := hb
  replace HM := Lib.hid (HM.out.away haw (fun z hz => by simp; exact HNG.out z hz))
  replace HB2 := Lib.hid (HB2.out.away haw (by simp; exact HG12.out))
  replace HA : Hid (Away [] w y7) := HA.out.next haw (fun x hx => .inr (by simp at hx; subst hx; exact HG1.out))
  clear hb haw
  clear cc hL0 iL0
  go_wp2_with (refine wpList_putF rfl 4 _ _ rfl g1 40 rfl (.bool false) rfl (fun u h1 h2 => put4 _ _ _ u h1 h2) (⟨V, T0, F0, V, p.sb, V, p.db, R0, L0, p.id, p.df, p.more, p.frag, p.off, p.o, p.d⟩ : Pk) (⟨V, T0, F0, V, p.sb, V, p.db, R0, L0, p.id, false, p.more, p.frag, p.off, p.o, p.d⟩ : Pk) (.slice oa on oc) (.slice da dn dc) (.slice oa on oc) (.slice da dn dc) (by exact HB.out) (by exact HAD.out) (by omega) (by exact (csP_set (p := (⟨V, T0, F0, V, p.sb, V, p.db, R0, L0, p.id, p.df, p.more, p.frag, p.off, p.o, p.d⟩ : Pk)) (by exact HAD.out) _ _).2.2.2.2.2.2.2.2.1 _) ?_; refine Hid.out ?_)
  refine Lib.hid ?_
  intro y8 hb haw
  replace HB : Hid (BoxP y8 g1 (⟨V, T0, F0, V, p.sb, V, p.db, R0, L0, p.id, false, p.more, p.frag, p.off, p.o, p.d⟩ : Pk) (.slice oa on oc) (.slice da dn dc)) := hb
  replace HM := Lib.hid (HM.out.away haw (fun z hz => by simp; exact HNG.out z hz))
  replace HB2 := Lib.hid (HB2.out.away haw (by simp; exact HG12.out))
  replace HA : Hid (Away [] w y8) := HA.out.next haw (fun x hx => .inr (by simp at hx; subst hx; exact HG1.out))
  clear hb haw
  go_wp2_with (refine wpList_putF rfl 4 _ _ rfl g1 41 rfl (.bool false) rfl (fun u h1 h2 => put4 _ _ _ u h1 h2) (⟨V, T0, F0, V, p.sb, V, p.db, R0, L0, p.id, false, p.more, p.frag, p.off, p.o, p.d⟩ : Pk) (⟨V, T0, F0, V, p.sb, V, p.db, R0, L0, p.id, false, false, p.frag, p.off, p.o, p.d⟩ : Pk) (.slice oa on oc) (.slice da dn dc) (.slice oa on oc) (.slice da dn dc) (by exact HB.out) (by exact HAD.out) (by omega) (by exact (csP_set (p := (⟨V, T0, F0, V, p.sb, V, p.db, R0, L0, p.id, false, p.more, p.frag, p.off, p.o, p.d⟩ : Pk)) (by exact HAD.out) _ _).2.2.2.2.2.2.2.2.2.1 _) ?_; refine Hid.out ?_)
  refine Lib.hid ?_
  intro y9 hb haw
  replace HB : Hid (BoxP y9 g1 (⟨V, T0, F0, V, p.sb, V, p.db, R0, L0, p.id, false, false, p.frag, p.off, p.o, p.d⟩ : Pk) (.slice oa on oc) (.slice da dn dc)) := hb
  replace HM := Lib.hid (HM.out.away haw (fun z hz => by simp; exact HNG.out z hz))
  replace HB2 := Lib.hid (HB2.out.away haw (by simp; exact HG12.out))
  replace HA : Hid (Away [] w y9) := HA.out.next haw (fun x hx => .inr (by simp at hx; subst hx; exact HG1.out))
  clear hb haw
  go_wp2_with (refine wpList_putF rfl 4 _ _ rfl g1 42 rfl (.bool false) rfl (fun u h1 h2 => put4 _ _ _ u h1 h2) (⟨V, T0, F0, V, p.sb, V, p.db, R0, L0, p.id, false, false, p.frag, p.off, p.o, p.d⟩ : Pk) (⟨V, T0, F0, V, p.sb, V, p.db, R0, L0, p.id, false, false, false, p.off, p.o, p.d⟩ : Pk) (.slice oa on oc) (.slice da dn dc) (.slice oa on oc) (.slice da dn dc) (by exact HB.out) (by exact HAD.out) (by omega) (by exact (csP_set (p := (⟨V, T0, F0, V, p.sb, V, p.db, R0, L0, p.id, false, false, p.frag, p.off, p.o, p.d⟩ : Pk)) (by exact HAD.out) _ _).2.2.2.2.2.2.2.2.2.2.1 _) ?_; refine Hid.out ?_)
  refine Lib.hid ?_
  intro y10 hb haw
  replace HB : Hid (BoxP y10 g1 (⟨V, T0, F0, V, p.sb, V, p.db, R0, L0, p.id, false, false, false, p.off, p.o, p.d⟩ : Pk) (.slice oa on oc) (.slice da dn dc)) := hb
  replace HM := Lib.hid (HM.out.away haw (fun z hz => by simp; exact HNG.out z hz))
  replace HB2 := Lib.hid (HB2.out.away haw (by simp; exact HG12.out))
  replace HA : Hid (Away [] w y10) := HA.out.next haw (fun x hx => .inr (by simp at hx; subst hx; exact HG1.out))
  clear hb haw
  go_wp2_with (refine wpList_putF rfl 3 _ _ rfl g1 43 rfl (.int .i64 0) rfl (fun u h1 h2 => put3 _ _ _ u h1 h2) (⟨V, T0, F0, V, p.sb, V, p.db, R0, L0, p.id, false, false, false, p.off, p.o, p.d⟩ : Pk) (⟨V, T0, F0, V, p.sb, V, p.db, R0, L0, p.id, false, false, false, 0, p.o, p.d⟩ : Pk) (.slice oa on oc) (.slice da dn dc) (.slice oa on oc) (.slice da dn dc) (by exact HB.out) (by exact HAD.out) (by omega) (by exact (csP_set (p := (⟨V, T0, F0, V, p.sb, V, p.db, R0, L0, p.id, false, false, false, p.off, p.o, p.d⟩ : Pk)) (by exact HAD.out) _ _).2.2.2.2.2.2.2.2.2.2.2.1 _) ?_; refine Hid.out ?_)
  refine Lib.hid ?_
  intro y11 hb haw
  replace HB : Hid (BoxP y11 g1 (⟨V, T0, F0, V, p.sb, V, p.db, R0, L0, p.id, false, false, false, 0, p.o, p.d⟩ : Pk) (.slice oa on oc) (.slice da dn dc)) := hb
  replace HM := Lib.hid (HM.out.away haw (fun z hz => by simp; exact HNG.out z hz))
  replace HB2 := Lib.hid (HB2.out.away haw (by simp; exact HG12.out))
  replace HA : Hid (Away [] w y11) := HA.out.next haw (fun x hx => .inr (by simp at hx; subst hx; exact HG1.out))
  clear hb haw
  go_wp2_with (refine wpList_putF rfl 37 _ _ rfl g1 44 rfl (.slice none 0 0) rfl (fun u h1 h2 => put26 _ _ _ _ _ u h1 h2) (⟨V, T0, F0, V, p.sb, V, p.db, R0, L0, p.id, false, false, false, 0, p.o, p.d⟩ : Pk) (⟨V, T0, F0, V, p.sb, V, p.db, R0, L0, p.id, false, false, false, 0, [], p.d⟩ : Pk) (.slice oa on oc) (.slice da dn dc) (.slice none 0 0) (.slice da dn dc) (by exact HB.out) (by exact HAD.out) (by omega) (by exact (csP_set (p := (⟨V, T0, F0, V, p.sb, V, p.db, R0, L0, p.id, false, false, false, 0, p.o, p.d⟩ : Pk)) (by exact HAD.out) _ _).2.2.2.2.2.2.2.2.2.2.2.2.1 [] _) ?_; refine Hid.out ?_)
  refine Lib.hid ?_
  intro yo hb haw
  replace HB : Hid (BoxP yo g1 (⟨V, T0, F0, V, p.sb, V, p.db, R0, L0, p.id, false, false, false, 0, [], p.d⟩ : Pk) (.slice none 0 0) (.slice da dn dc)) := hb
  replace HM := Lib.hid (HM.out.away haw (fun z hz => by simp; exact HNG.out z hz))
  replace HB2 := Lib.hid (HB2.out.away haw (by simp; exact HG12.out))
  replace HA : Hid (Away [] w yo) := HA.out.next haw (fun x hx => .inr (by simp at hx; subst hx; exact HG1.out))
  clear hb haw
  have c45 := (HB.out.cells (by exact HAD.out)).d
  go_upto_if 55 with fail
  go_cut [] (fun wx => ∃ N : Nat, N ≤ 4000 ∧ N ≤ dn ∧ BoxP wx g1 (⟨V, T0, F0, V, p.sb, V, p.db, R0, L0, p.id, false, false, false, 0, [], (p.d.take N)⟩ : Pk) (.slice none 0 0) (.slice da N dc) ∧ BoxP wx g2 zeroPk (.slice none 0 0) (.slice none 0 0) ∧ Mine wx w.heap.size p (.slice oa on oc) (.slice da dn dc) ∧ Away [] w wx)
  case first =>
    by_cases hbig : 4000 < dn
    · have j1 : (4000 : Int) < (dn : Int) := by omega
      have hsl := slice_h da dn dc 4000 4000 rfl (by omega)
      go_wp2_with (refine wpList_putF rfl 37 _ _ rfl g1 45 rfl (.slice da 4000 dc) rfl (fun u h1 h2 => put26 _ _ _ _ _ u h1 h2) (⟨V, T0, F0, V, p.sb, V, p.db, R0, L0, p.id, false, false, false, 0, [], p.d⟩ : Pk) (⟨V, T0, F0, V, p.sb, V, p.db, R0, L0, p.id, false, false, false, 0, [], (p.d.take 4000)⟩ : Pk) (.slice none 0 0) (.slice da dn dc) (.slice none 0 0) (.slice da 4000 dc) (by exact HB.out) (by exact HAD.out) (by omega) (by exact (csP_set (p := (⟨V, T0, F0, V, p.sb, V, p.db, R0, L0, p.id, false, false, false, 0, [], p.d⟩ : Pk)) (by exact HAD.out) _ _).2.2.2.2.2.2.2.2.2.2.2.2.2 (p.d.take 4000) _) ?_; refine Hid.out ?_)
      refine Lib.hid ?_
      intro yd hb haw
      have HB' := Lib.hid hb
      have HM' := Lib.hid (HM.out.away haw (fun z hz => by simp; exact HNG.out z hz))
      have HB2' := Lib.hid (HB2.out.away haw (by simp; exact HG12.out))
      have HA' : Hid (Away [] w yd) := HA.out.next haw (fun x hx => .inr (by simp at hx; subst hx; exact HG1.out))
      clear hb haw
      go_wp2_with fail
      go_meet
      exact ⟨4000, by omega, by omega, HB'.out, HB2'.out, HM'.out, HA'.out⟩
    · have j1 : ¬ ((4000 : Int) < (dn : Int)) := by omega
      have e : p.d.take dn = p.d := by rw [← HDN.out, List.take_length]
      go_wp2_with fail
      go_meet
      exact ⟨dn, by omega, by omega, by rw [e]; exact HB.out, HB2.out, HM.out, HA.out⟩
  case rest =>
    obtain ⟨N, hN, hNd, hb, hb2, hm, haw⟩ := hcut
    clear HB HB2 HM HA c45
    have HB := Lib.hid hb; have HB2 := Lib.hid hb2; have HM := Lib.hid hm; have HA := Lib.hid haw
    have HNL : Hid ((p.d.take N).length = N) := by have := HDN.out; exact (by rw [List.length_take]; omega : (p.d.take N).length = N)
    clear hb hb2 hm haw
    have c0 := (HB.out.cells (by exact HAD.out)).v
    rcases HVB.out with rfl | rfl
    · have j6 : ¬ ((4 : Int) = 6) := by omega
      go_wp2_with (refine wpList_putF rfl 3 _ _ rfl g1 2 rfl (.int .i64 0) rfl (fun u h1 h2 => put3 _ _ _ u h1 h2) (⟨4, T0, F0, 4, p.sb, 4, p.db, R0, L0, p.id, false, false, false, 0, [], (p.d.take N)⟩ : Pk) (⟨4, T0, 0, 4, p.sb, 4, p.db, R0, L0, p.id, false, false, false, 0, [], (p.d.take N)⟩ : Pk) (.slice none 0 0) (.slice da N dc) (.slice none 0 0) (.slice da N dc) (by exact HB.out) (by exact HAD.out) (by omega) (by exact (csP_set (p := (⟨4, T0, F0, 4, p.sb, 4, p.db, R0, L0, p.id, false, false, false, 0, [], (p.d.take N)⟩ : Pk)) (by exact HAD.out) _ _).2.2.1 _) ?_; refine Hid.out ?_)
      refine Lib.hid ?_
      intro y13 hb haw
      replace HB : Hid (BoxP y13 g1 (⟨4, T0, 0, 4, p.sb, 4, p.db, R0, L0, p.id, false, false, false, 0, [], (p.d.take N)⟩ : Pk) (.slice none 0 0) (.slice da N dc)) := hb
      replace HM := Lib.hid (HM.out.away haw (fun z hz => by simp; exact HNG.out z hz))
      replace HB2 := Lib.hid (HB2.out.away haw (by simp; exact HG12.out))
      replace HA : Hid (Away [] w y13) := HA.out.next haw (fun x hx => .inr (by simp at hx; subst hx; exact HG1.out))
      clear hb haw
      have ci := (HB.out.cells (by exact HAD.out)).id
      obtain ⟨I0, hI0, bI0⟩ : ∃ z : Int, Int.tmod p.id 65536 = z ∧ 0 ≤ z ∧ z < 65536 := ⟨_, rfl, Int.tmod_nonneg _ HPW.out.id0, Int.tmod_lt_of_pos _ (by omega)⟩
      have iI0 : IntKind.u32.wrap I0 = I0 := by rw [u32_wrap]; omega
      have HCI0 := Lib.hid bI0
      clear bI0
      go_wp2_with (refine wpList_putF rfl 36 _ _ rfl g1 39 rfl (.int .u32 I0) rfl (fun u h1 h2 => put25 _ _ _ u h1 h2) (⟨4, T0, 0, 4, p.sb, 4, p.db, R0, L0, p.id, false, false, false, 0, [], (p.d.take N)⟩ : Pk) (⟨4, T0, 0, 4, p.sb, 4, p.db, R0, L0, I0, false, false, false, 0, [], (p.d.take N)⟩ : Pk) (.slice none 0 0) (.slice da N dc) (.slice none 0 0) (.slice da N dc) (by exact HB.out) (by exact HAD.out) (by omega) (by exact (csP_set (p := (⟨4, T0, 0, 4, p.sb, 4, p.db, R0, L0, p.id, false, false, false, 0, [], (p.d.take N)⟩ : Pk)) (by exact HAD.out) _ _).2.2.2.2.2.2.2.1 _) ?_; refine Hid.out ?_)
      refine Lib.hid ?_
      intro y14 hb haw
      replace HB : Hid (BoxP y14 g1 (⟨4, T0, 0, 4, p.sb, 4, p.db, R0, L0, I0, false, false, false, 0, [], (p.d.take N)⟩ : Pk) (.slice none 0 0) (.slice da N dc)) := hb
      replace HM := Lib.hid (HM.out.away haw (fun z hz => by simp; exact HNG.out z hz))
      replace HB2 := Lib.hid (HB2.out.away haw (by simp; exact HG12.out))
      replace HA : Hid (Away [] w y14) := HA.out.next haw (fun x hx => .inr (by simp at hx; subst hx; exact HG1.out))
      clear hb haw
      clear ci hI0 iI0 c0
      go_wp2_with fail
      go_loopw [3] (fun i wr => ∃ (k : Nat) (sb db : List Int), 4 ≤ k ∧ k ≤ 16 ∧ i = .int .i64 (k : Int) ∧ Zr4 sb k ∧ Zr4 db k ∧ BoxP wr g1 (⟨4, T0, 0, 4, sb, 4, db, R0, L0, I0, false, false, false, 0, [], (p.d.take N)⟩ : Pk) (.slice none 0 0) (.slice da N dc) ∧ BoxP wr g2 zeroPk (.slice none 0 0) (.slice none 0 0) ∧ Mine wr w.heap.size p (.slice oa on oc) (.slice da dn dc) ∧ Away [] w wr) (fun i _ => 16 - (intOf i).toNat)
      case atStart => exact ⟨4, p.sb, p.db, by omega, by omega, rfl, ⟨HPW.out.sl, HPW.out.sb, fun i h1 h2 => by omega⟩, ⟨HPW.out.dl, HPW.out.db, fun i h1 h2 => by omega⟩, HB.out, HB2.out, HM.out, HA.out⟩
      case round =>
        obtain ⟨k, sb, db, hk4, hk, rfl, hzs, hzd, hb, hb2, hm, haw⟩ := hrel
        clear HB HB2 HM HA
        have HB := Lib.hid hb; have HB2 := Lib.hid hb2; have HM := Lib.hid hm; have HA := Lib.hid haw
        have HZS := Lib.hid hzs; have HZD := Lib.hid hzd
        clear hb hb2 hm haw hzs hzd
        by_cases hlt : k < 16
        · have j1 : (k : Int) < 16 := by omega
          have j2 : 0 ≤ (k : Int) := by omega
          have j3 : ((k : Nat) : Int).toNat = k := by omega
          go_wp2_with (refine wpList_putF rfl 5 _ _ rfl g1 (4 + k) rfl (.int .u8 0) rfl (fun u h1 h2 => put5 _ _ _ u h1 h2) (⟨4, T0, 0, 4, sb, 4, db, R0, L0, I0, false, false, false, 0, [], (p.d.take N)⟩ : Pk) (⟨4, T0, 0, 4, (sb.set k 0), 4, db, R0, L0, I0, false, false, false, 0, [], (p.d.take N)⟩ : Pk) (.slice none 0 0) (.slice da N dc) (.slice none 0 0) (.slice da N dc) (by exact HB.out) ⟨HZS.out.len, HZD.out.len⟩ (by omega) (by exact csP_sb (p := (⟨4, T0, 0, 4, sb, 4, db, R0, L0, I0, false, false, false, 0, [], (p.d.take N)⟩ : Pk)) _ _ k (by simp only; rw [HZS.out.len]; exact hlt) 0) ?_; refine Hid.out ?_)
          refine Lib.hid ?_
          intro ys hb haw
          replace HB : Hid (BoxP ys g1 (⟨4, T0, 0, 4, (sb.set k 0), 4, db, R0, L0, I0, false, false, false, 0, [], (p.d.take N)⟩ : Pk) (.slice none 0 0) (.slice da N dc)) := hb
          replace HM := Lib.hid (HM.out.away haw (fun z hz => by simp; exact HNG.out z hz))
          replace HB2 := Lib.hid (HB2.out.away haw (by simp; exact HG12.out))
          replace HA : Hid (Away [] w ys) := HA.out.next haw (fun x hx => .inr (by simp at hx; subst hx; exact HG1.out))
          clear hb haw
          go_wp2_with (refine wpList_putF rfl 5 _ _ rfl g1 (21 + k) rfl (.int .u8 0) rfl (fun u h1 h2 => put5 _ _ _ u h1 h2) (⟨4, T0, 0, 4, (sb.set k 0), 4, db, R0, L0, I0, false, false, false, 0, [], (p.d.take N)⟩ : Pk) (⟨4, T0, 0, 4, (sb.set k 0), 4, (db.set k 0), R0, L0, I0, false, false, false, 0, [], (p.d.take N)⟩ : Pk) (.slice none 0 0) (.slice da N dc) (.slice none 0 0) (.slice da N dc) (by exact HB.out) ⟨(by simp only; rw [List.length_set]; exact HZS.out.len), HZD.out.len⟩ (by omega) (by exact csP_db (p := (⟨4, T0, 0, 4, (sb.set k 0), 4, db, R0, L0, I0, false, false, false, 0, [], (p.d.take N)⟩ : Pk)) (by simp only; rw [List.length_set]; exact HZS.out.len) _ _ k (by simp only; rw [HZD.out.len]; exact hlt) 0) ?_; refine Hid.out ?_)
          refine Lib.hid ?_
          intro yt hb haw
          replace HB : Hid (BoxP yt g1 (⟨4, T0, 0, 4, (sb.set k 0), 4, (db.set k 0), R0, L0, I0, false, false, false, 0, [], (p.d.take N)⟩ : Pk) (.slice none 0 0) (.slice da N dc)) := hb
          replace HM := Lib.hid (HM.out.away haw (fun z hz => by simp; exact HNG.out z hz))
          replace HB2 := Lib.hid (HB2.out.away haw (by simp; exact HG12.out))
          replace HA : Hid (Away [] w yt) := HA.out.next haw (fun x hx => .inr (by simp at hx; subst hx; exact HG1.out))
          clear hb haw
          go_wp2_with fail
          go_roundw
          case rel => exact ⟨k + 1, sb.set k 0, db.set k 0, by omega, by omega, by go_num, HZS.out.set hlt, HZD.out.set hlt, HB.out, HB2.out, HM.out, HA.out⟩
          case measure => simp [intOf]; omega
        · have j1 : ¬ ((k : Int) < 16) := by omega
          obtain rfl : k = 16 := by omega
          have HAQ : Hid (Ad (⟨4, T0, 0, 4, sb, 4, db, R0, L0, I0, false, false, false, 0, [], (p.d.take N)⟩ : Pk)) := ⟨HZS.out.len, HZD.out.len⟩
          have HWF : Hid (Wf (⟨4, T0, 0, 4, sb, 4, db, R0, L0, I0, false, false, false, 0, [], (p.d.take N)⟩ : Pk)) := by
            have h1 := HPW.out; have h2 := HCT0.out; have h4 := HCR0.out; have h5 := HCL0.out; have h6 := HCI0.out
            exact ⟨by simp [i64ok], by simp only [i64ok]; omega, by simp [i64ok], by simp [i64ok], HZS.out.len, HZS.out.by', by simp [i64ok], HZD.out.len, HZD.out.by', by simp only [i64ok]; omega, by simp only [i64ok]; omega, by simp only; omega, by simp only; omega, by simp [i64ok], Bytes.nil, by simp, h1.d.take N, by simp only; rw [HNL.out]; omega⟩
          have HRG : Hid (rgt2 (⟨4, T0, 0, 4, sb, 4, db, R0, L0, I0, false, false, false, 0, [], (p.d.take N)⟩ : Pk) = true) := by
            have h2 := HCT0.out; have h4 := HCR0.out; have h5 := HCL0.out; have h6 := HNL.out; have h7 := HCI0.out
            unfold rgt2
            rw [(right_iff _).2 ⟨?_, by unfold validP; rw [parseP_nil]; rfl⟩, Bool.true_or]; exact rfl
            exact ⟨rfl, rfl, rfl, by simp only; omega, by simp only; omega, by simp only; omega, by simp only; omega, by simp only; omega, by simp only; omega, by simp only; omega, rfl, HZS.out.fin, rfl, HZD.out.fin, by simp, by simp, by simp, fun h => by simp at h, fun h => by simp at h, fun h => by simp at h, by simp only; omega, by simp only; simp; omega⟩
          go_wp2_with (first
            | (refine wpList_load28 rfl _ rfl g1 rfl (⟨4, T0, 0, 4, sb, 4, db, R0, L0, I0, false, false, false, 0, [], (p.d.take N)⟩ : Pk) _ _ (by exact HB.out) (by exact HAQ.out) ?_)
            | (refine wpList_store28 rfl _ _ rfl g2 rfl (⟨4, T0, 0, 4, sb, 4, db, R0, L0, I0, false, false, false, 0, [], (p.d.take N)⟩ : Pk) (.slice none 0 0) (.slice da N dc) rfl zeroPk (.slice none 0 0) (.slice none 0 0) (by exact HB2.out) (by exact HAQ.out) ⟨rfl, rfl⟩ rfl rfl ?_; refine Hid.out ?_))
          refine Lib.hid ?_
          intro yz hb haw
          have HBZ := Lib.hid hb
          have HMZ := Lib.hid (HM.out.away haw (fun z hz => by simp; exact HNG2.out z hz))
          have HAZ : Hid (Away [] w yz) := HA.out.next haw (fun x hx => .inr (by simp at hx; subst hx; exact HG2.out))
          clear hb haw
          go_wp2_with fail
          exact bodyPost_ret (result28 rfl _ _ _ _ _ _ rfl HBZ.out HAQ.out) rfl ⟨(⟨4, T0, 0, 4, sb, 4, db, R0, L0, I0, false, false, false, 0, [], (p.d.take N)⟩ : Pk), _, rfl, HRG.out, HWF.out, by simp, rfl, rfl, rfl, rfl, rfl, by simp only; rw [HNL.out]; exact hN, ⟨Owns.nil _, owns_head HMZ.out.d N (by rw [HDN.out]; exact hNd), New.nil _, fun z hz => HMZ.out.nd z (by cases da with | none => simp [Value.ownBlock] at hz | some q => simpa [Value.ownBlock] using hz), by simp [Value.ownBlock]⟩, HAZ.out⟩
    · go_wp2_with (refine wpList_putF rfl 36 _ _ rfl g1 39 rfl (.int .u32 0) rfl (fun u h1 h2 => put25 _ _ _ u h1 h2) (⟨6, T0, F0, 6, p.sb, 6, p.db, R0, L0, p.id, false, false, false, 0, [], (p.d.take N)⟩ : Pk) (⟨6, T0, F0, 6, p.sb, 6, p.db, R0, L0, 0, false, false, false, 0, [], (p.d.take N)⟩ : Pk) (.slice none 0 0) (.slice da N dc) (.slice none 0 0) (.slice da N dc) (by exact HB.out) (by exact HAD.out) (by omega) (by exact (csP_set (p := (⟨6, T0, F0, 6, p.sb, 6, p.db, R0, L0, p.id, false, false, false, 0, [], (p.d.take N)⟩ : Pk)) (by exact HAD.out) _ _).2.2.2.2.2.2.2.1 _) ?_; refine Hid.out ?_)
      refine Lib.hid ?_
      intro y12 hb haw
      replace HB : Hid (BoxP y12 g1 (⟨6, T0, F0, 6, p.sb, 6, p.db, R0, L0, 0, false, false, false, 0, [], (p.d.take N)⟩ : Pk) (.slice none 0 0) (.slice da N dc)) := hb
      replace HM := Lib.hid (HM.out.away haw (fun z hz => by simp; exact HNG.out z hz))
      replace HB2 := Lib.hid (HB2.out.away haw (by simp; exact HG12.out))
      replace HA : Hid (Away [] w y12) := HA.out.next haw (fun x hx => .inr (by simp at hx; subst hx; exact HG1.out))
      clear hb haw
      have HAQ : Hid (Ad (⟨6, T0, F0, 6, p.sb, 6, p.db, R0, L0, 0, false, false, false, 0, [], (p.d.take N)⟩ : Pk)) := HAD.out
      have HWF : Hid (Wf (⟨6, T0, F0, 6, p.sb, 6, p.db, R0, L0, 0, false, false, false, 0, [], (p.d.take N)⟩ : Pk)) := by
        have h1 := HPW.out; have h2 := HCT0.out; have h3 := HCF0.out; have h4 := HCR0.out; have h5 := HCL0.out
        exact ⟨by simp [i64ok], by simp only [i64ok]; omega, by simp only [i64ok]; omega, by simp [i64ok], h1.sl, h1.sb, by simp [i64ok], h1.dl, h1.db, by simp only [i64ok]; omega, by simp only [i64ok]; omega, by simp, by simp, by simp [i64ok], Bytes.nil, by simp, h1.d.take N, by simp only; rw [HNL.out]; omega⟩
      have HRG : Hid (rgt2 (⟨6, T0, F0, 6, p.sb, 6, p.db, R0, L0, 0, false, false, false, 0, [], (p.d.take N)⟩ : Pk) = true) := by
        have h2 := HCT0.out; have h3 := HCF0.out; have h4 := HCR0.out; have h5 := HCL0.out; have h6 := HNL.out
        unfold rgt2
        rw [(S6.right_iff _).2 ?_, Bool.or_true]; exact rfl
        exact ⟨rfl, rfl, rfl, by simp only; omega, by simp only; omega, by simp only; omega, by simp only; omega, by simp only; omega, by simp only; omega, by simp only; omega, by simp only; omega, by simp only; omega, rfl, rfl, by simp, by simp, by simp, fun h => by simp at h, fun h => by rcases h with h | h <;> simp at h, by simp only; omega, fun _ => ⟨rfl, rfl, rfl⟩, by simp only [S6.hofP]; simp; omega⟩
      clear c0
      go_wp2_with (first
        | (refine wpList_load28 rfl _ rfl g1 rfl (⟨6, T0, F0, 6, p.sb, 6, p.db, R0, L0, 0, false, false, false, 0, [], (p.d.take N)⟩ : Pk) _ _ (by exact HB.out) (by exact HAQ.out) ?_)
        | (refine wpList_store28 rfl _ _ rfl g2 rfl (⟨6, T0, F0, 6, p.sb, 6, p.db, R0, L0, 0, false, false, false, 0, [], (p.d.take N)⟩ : Pk) (.slice none 0 0) (.slice da N dc) rfl zeroPk (.slice none 0 0) (.slice none 0 0) (by exact HB2.out) (by exact HAQ.out) ⟨rfl, rfl⟩ rfl rfl ?_; refine Hid.out ?_))
      refine Lib.hid ?_
      intro yz hb haw
      have HBZ := Lib.hid hb
      have HMZ := Lib.hid (HM.out.away haw (fun z hz => by simp; exact HNG2.out z hz))
      have HAZ : Hid (Away [] w yz) := HA.out.next haw (fun x hx => .inr (by simp at hx; subst hx; exact HG2.out))
      clear hb haw
      go_wp2_with fail
      exact bodyPost_ret (result28 rfl _ _ _ _ _ _ rfl HBZ.out HAQ.out) rfl ⟨(⟨6, T0, F0, 6, p.sb, 6, p.db, R0, L0, 0, false, false, false, 0, [], (p.d.take N)⟩ : Pk), _, rfl, HRG.out, HWF.out, by simp, rfl, rfl, rfl, rfl, rfl, by simp only; rw [HNL.out]; exact hN, ⟨Owns.nil _, owns_head HMZ.out.d N (by rw [HDN.out]; exact hNd), New.nil _, fun z hz => HMZ.out.nd z (by cases da with | none => simp [Value.ownBlock] at hz | some q => simpa [Value.ownBlock] using hz), by simp [Value.ownBlock]⟩, HAZ.out⟩
def partQ (p : Pk) (f t : Nat) (id : Int) : Pk := if p.v = 6 then { pieceP p f t with frag := true, id := id } else pieceP p f t
set_option maxHeartbeats 8000000 in
theorem part_e (w : World) (p : Pk) (pd : Value) (id : Int) (hp : Pkt w p (.slice none 0 0) pd) (ho : p.o = []) (f t : Nat) (hft : f < t) (ht : t ≤ p.d.length) (hl : p.d.length ≤ 100000) :
    Calls Tryz.prog 39 #[.agg (csP p (.slice none 0 0) pd), .int .i64 (f : Int), .int .i64 (t : Int), .int .u32 id] w fun E w' => ∃ dv, E = .returned (.agg (csP (partQ p f t id) (.slice none 0 0) dv)) ∧ Mine w' w.heap.size (partQ p f t id) (.slice none 0 0) dv ∧ Away [] w w' := by
  have HAD : Hid (Ad p) := hp.wf.ad
  have HP := Lib.hid hp
  have HPO := Lib.hid ho
  have HAQ : Hid (Ad (pieceP p f t)) := hp.wf.ad
  clear hp ho
  go_enter Tryz.func39, Tryz.ntmps39
  go_wp2_with (refine wpList_box28 rfl _ rfl p _ _ rfl ?_; refine Hid.out ?_)
  refine Lib.hid ?_
  intro g4 w1 hg4 hb haw
  have HB4 := Lib.hid hb
  have HA := Lib.hid haw
  clear hb haw hg4
  go_wp2_with (refine wpList_alloc28 rfl rfl ?_; refine Hid.out ?_)
  refine Lib.hid ?_
  intro g8 w2 hg8 hb haw
  have HB8 := Lib.hid hb
  have HG8 : Hid (w.heap.size ≤ g8) := Nat.le_trans HA.out.size hg8
  replace HB4 := Lib.hid (HB4.out.on haw)
  replace HA := Lib.hid (HA.out.trans haw)
  clear hb haw hg8
  have K1 := Lib.hid (piece_c p (.slice none 0 0) pd w2 (HP.out.on HA.out) f t hft ht hl)
  unfold PieceOut at K1
  go_wp2_with (first
    | (refine wpList_load28 rfl _ rfl g4 rfl p _ _ (by exact HB4.out) (by exact HAD.out) ?_)
    | (go_at_call 25; refine K1.out.mono ?_; refine Hid.out ?_))
  refine Lib.hid ?_
  first
    | rintro E w3 dv rfl hown hnew haw
    | rintro E w3 ⟨dv, rfl, hown, hnew, haw⟩
  obtain ⟨da, dn, dc, rfl⟩ := hown.shp
  have HO := Lib.hid hown
  have HND : Hid (New w.heap.size (.slice da dn dc)) := fun z hz => Nat.le_trans HA.out.size (hnew z hz)
  have HN2 : Hid (∀ z, (Value.slice da dn dc).ownBlock = some z → w2.heap.size ≤ z ∧ z < w3.heap.size) := fun z hz => ⟨hnew z hz, hown.lt z hz⟩
  have HL8 : Hid (g8 < w2.heap.size) := HB8.out.lt
  replace HB4 := Lib.hid (HB4.out.on haw)
  replace HB8 := Lib.hid (HB8.out.on haw)
  replace HA := Lib.hid (HA.out.trans haw)
  clear hown hnew haw K1
  go_wp2_with (refine wpList_new28 rfl rfl rfl _ _ rfl (pieceP p f t) (.slice none 0 0) (.slice da dn dc) (fun g => rfl) (fun g => rfl) (by exact HAQ.out) rfl rfl ?_; refine Hid.out ?_)
  refine Lib.hid ?_
  intro g9 w4 hg9 hb haw
  have HB9 := Lib.hid hb
  have HG9 : Hid (w.heap.size ≤ g9) := Nat.le_trans HA.out.size hg9
  have HNE : Hid (∀ z, (Value.slice da dn dc).ownBlock = some z → z ≠ g8 ∧ z ≠ g9) := fun z hz => by have h1 := HN2.out z hz; have h2 := HL8.out; exact ⟨by omega, by omega⟩
  have H89 : Hid (g8 ≠ g9) := by have h1 := HB8.out.lt; exact (by omega : g8 ≠ g9)
  replace HB4 := Lib.hid (HB4.out.on haw)
  replace HB8 := Lib.hid (HB8.out.on haw)
  replace HO := Lib.hid (HO.out.away haw (by simp))
  replace HA := Lib.hid (HA.out.trans haw)
  clear hb haw hg9 HN2 HL8
  have c0 := (HB4.out.cells (by exact HAD.out)).v
  by_cases h6 : p.v = 6
  · have HQE : Hid (partQ p f t id = { pieceP p f t with frag := true, id := id }) := by show _ = _; unfold partQ; rw [if_pos h6]
    rw [h6] at c0
    clear h6 HB4
    go_wp2_with (refine wpList_putF rfl 4 _ _ rfl g9 42 rfl (.bool true) rfl (fun u h1 h2 => put4 _ _ _ u h1 h2) (pieceP p f t) ({ pieceP p f t with frag := true }) _ _ _ _ (by exact HB9.out) (by exact HAQ.out) (by omega) (by exact (csP_set (p := pieceP p f t) (by exact HAQ.out) _ _).2.2.2.2.2.2.2.2.2.2.1 _) ?_; refine Hid.out ?_)
    refine Lib.hid ?_
    intro y1 hb haw
    replace HB9 : Hid (BoxP y1 g9 ({ pieceP p f t with frag := true }) (.slice none 0 0) (.slice da dn dc)) := hb
    replace HB8 := Lib.hid (HB8.out.away haw (by simp; exact H89.out))
    replace HO := Lib.hid (HO.out.away haw (fun z hz => by simp; exact (HNE.out z hz).2))
    replace HA : Hid (Away [] w y1) := HA.out.next haw (fun x hx => .inr (by simp at hx; subst hx; exact HG9.out))
    clear hb haw
    go_wp2_with (refine wpList_putF rfl 36 _ _ rfl g9 39 rfl (.int .u32 id) rfl (fun u h1 h2 => put25 _ _ _ u h1 h2) ({ pieceP p f t with frag := true }) ({ pieceP p f t with frag := true, id := id }) _ _ _ _ (by exact HB9.out) (by exact HAQ.out) (by omega) (by exact (csP_set (p := { pieceP p f t with frag := true }) (by exact HAQ.out) _ _).2.2.2.2.2.2.2.1 _) ?_; refine Hid.out ?_)
    refine Lib.hid ?_
    intro y2 hb haw
    replace HB9 : Hid (BoxP y2 g9 ({ pieceP p f t with frag := true, id := id }) (.slice none 0 0) (.slice da dn dc)) := hb
    replace HB8 := Lib.hid (HB8.out.away haw (by simp; exact H89.out))
    replace HO := Lib.hid (HO.out.away haw (fun z hz => by simp; exact (HNE.out z hz).2))
    replace HA : Hid (Away [] w y2) := HA.out.next haw (fun x hx => .inr (by simp at hx; subst hx; exact HG9.out))
    clear hb haw
    go_wp2_with (first
      | (refine wpList_load28 rfl _ rfl g9 rfl ({ pieceP p f t with frag := true, id := id }) _ _ (by exact HB9.out) (by exact HAQ.out) ?_)
      | (refine wpList_store28 rfl _ _ rfl g8 rfl ({ pieceP p f t with frag := true, id := id }) (.slice none 0 0) (.slice da dn dc) rfl zeroPk (.slice none 0 0) (.slice none 0 0) (by exact HB8.out) (by exact HAQ.out) ⟨rfl, rfl⟩ rfl rfl ?_; refine Hid.out ?_))
    refine Lib.hid ?_
    intro yz hb haw
    have HBZ := Lib.hid hb
    have HOZ := Lib.hid (HO.out.away haw (fun z hz => by simp; exact (HNE.out z hz).1))
    have HAZ : Hid (Away [] w yz) := HA.out.next haw (fun x hx => .inr (by simp at hx; subst hx; exact HG8.out))
    clear hb haw
    go_wp2_with fail
    exact bodyPost_ret (result28 rfl _ _ _ _ _ _ rfl HBZ.out HAQ.out) rfl ⟨_, by rw [HQE.out], by rw [HQE.out]; exact ⟨by simp only [pieceP]; rw [HPO.out]; exact Owns.nil _, HOZ.out, New.nil _, HND.out, by simp [Value.ownBlock]⟩, HAZ.out⟩
  · have HQE : Hid (partQ p f t id = pieceP p f t) := by show _ = _; unfold partQ; rw [if_neg h6]
    have e6 : (p.v == 6) = false := by simpa using h6
    clear h6 HB4
    go_wp2_with (first
      | (refine wpList_load28 rfl _ rfl g9 rfl (pieceP p f t) _ _ (by exact HB9.out) (by exact HAQ.out) ?_)
      | (refine wpList_store28 rfl _ _ rfl g8 rfl (pieceP p f t) (.slice none 0 0) (.slice da dn dc) rfl zeroPk (.slice none 0 0) (.slice none 0 0) (by exact HB8.out) (by exact HAQ.out) ⟨rfl, rfl⟩ rfl rfl ?_; refine Hid.out ?_))
    refine Lib.hid ?_
    intro yz hb haw
    have HBZ := Lib.hid hb
    have HOZ := Lib.hid (HO.out.away haw (fun z hz => by simp; exact (HNE.out z hz).1))
    have HAZ : Hid (Away [] w yz) := HA.out.next haw (fun x hx => .inr (by simp at hx; subst hx; exact HG8.out))
    clear hb haw
    go_wp2_with fail
    exact bodyPost_ret (result28 rfl _ _ _ _ _ _ rfl HBZ.out HAQ.out) rfl ⟨_, by rw [HQE.out], by rw [HQE.out]; exact ⟨by simp only [pieceP]; rw [HPO.out]; exact Owns.nil _, HOZ.out, New.nil _, HND.out, by simp [Value.ownBlock]⟩, HAZ.out⟩
def Ints (w : World) (a : Option Addr) (n : Nat) : Prop := ∀ i, i < n → ∃ b o z, a = some ⟨b, o, none⟩ ∧ w.cell? ⟨b, o + i, none⟩ = some (.int .i64 z) ∧ i64ok z
theorem Ints.on {w w' : World} {a : Option Addr} {n : Nat} (h : Ints w a n) (hw : Away [] w w') : Ints w' a n := fun i hi => by
  obtain ⟨b, o, z, h1, h2, h3⟩ := h i hi
  exact ⟨b, o, z, h1, hw.cell (by simp) h2, h3⟩
def BokR (w : World) (g N : Nat) (B : Nat → Bool) : Prop := ∀ i : Nat, i < N → w.cell? ⟨g, i, none⟩ = some (.bool (B i))
theorem made_get {v : Value} (hv : v.cells = #[v]) (n i : Nat) (h : i < n) : (madeCells v.cells n)[i]? = some v := by
  rw [hv]
  unfold madeCells
  rw [Array.getElem?_map, Array.getElem?_eq_getElem (by simpa using h)]
  simp [Nat.mod_one]
theorem info4b : (Tryz.prog.info? 4).map (fun i => (i.zero, i.size, i.bytes)) = some (some (.bool false), 1, 1) := by kernel_rfl
def Bkn (w : World) (g N : Nat) (B : Int → Bool) : Prop := ∃ cur, w.heap[g]? = some (.cells cur 4 (0, 0)) ∧ ∀ i : Nat, i < N → cur[i]? = some (.bool (B i))
section
variable {w w' : World} {g N : Nat} {B C : Int → Bool}
theorem Bkn.away {S : List Nat} (h : Bkn w g N B) (hw : Away S w w') (hg : g ∉ S) : Bkn w' g N B := by
  obtain ⟨cur, h1, h2⟩ := h
  exact ⟨cur, hw.keep hg h1, h2⟩
theorem Bkn.on (h : Bkn w g N B) (hw : Away [] w w') : Bkn w' g N B := h.away hw (by simp)
theorem Bkn.row (h : Bkn w g N B) : BokR w g N (fun n => B (n : Int)) := fun i hi => by
  obtain ⟨cur, h1, h2⟩ := h
  rw [cell_of_block h1]; exact h2 i hi
theorem Bkn.free (h : Bkn w g N B) (i : Nat) : w.frozen? ⟨g, i, none⟩ = false := by obtain ⟨cur, h1, -⟩ := h; exact free_of_block h1 i
theorem Bkn.lt (h : Bkn w g N B) : g < w.heap.size := by obtain ⟨cur, h1, -⟩ := h; exact lt_of_block h1
theorem arr_lt {cur : Array Value} {i : Nat} {v : Value} (h : cur[i]? = some v) : i < cur.size := by
  rcases Nat.lt_or_ge i cur.size with h4 | h4
  · exact h4
  · rw [Array.getElem?_eq_none h4] at h; simp at h
theorem Bkn.set (h : Bkn w g N B) {i : Nat} (hi : i < N) : Bkn (w.setCell ⟨g, i, none⟩ (.bool true)) g N (fun n => if n = (i : Int) then true else B n) := by
  obtain ⟨cur, h1, h2⟩ := h
  refine ⟨cur.setIfInBounds i (.bool true), block_set h1 i _, fun j hj => ?_⟩
  rw [Array.getElem?_setIfInBounds]
  by_cases hij : i = j
  · subst hij
    rw [if_pos rfl, if_pos (arr_lt (h2 i hi))]; simp
  · rw [if_neg hij, h2 j hj]; dsimp only; rw [if_neg (by omega)]
theorem Bkn.setA (h : Bkn w g N B) (i : Nat) : Away [g] w (w.setCell ⟨g, i, none⟩ (.bool true)) := (Away.refl _ _).setCell (.inl (by simp)) _
end
def bookN (n : Nat) : Obj := .cells (madeCells (Value.bool false).cells n) 4
theorem make_book (n : Nat) (N : Int) (hN : N = n) (hn : n ≤ 100000) (wx : World) :
    (Instr.makeSlice 62 (.int .i64 N) (.int .i64 N)).run Tryz.prog wx = .ok (.slice (some ⟨wx.heap.size, 0, none⟩) n n) (wx.alloc (bookN n)) := by
  subst hN
  obtain ⟨i0, hi, hz0, hz1, hz2⟩ := info_parts info4b
  have := run_make (P := Tryz.prog) wx 62 4 i0 _ Tryz.underlying62 hi hz0 .i64 .i64 n n (by omega) (by omega) (by rw [hz2]; omega) (by omega)
  rw [hz1] at this
  unfold bookN
  simpa using this
theorem book_new (w : World) (n : Nat) : Bkn (w.alloc (bookN n)) w.heap.size n (fun _ => false) := ⟨_, block_new w (bookN n), fun i hi => made_get rfl n i hi⟩
theorem partq_wf {p : Pk} (hw : Wf p) (ho : p.o = []) {f t : Nat} {id : Int} (hft : f < t) (ht : t ≤ p.d.length) (hl : p.d.length ≤ 100000) (h0 : 0 ≤ id) (h1 : id ≤ 4294967295) : Wf (partQ p f t id) := by
  have key : Wf (pieceP p f t) := ⟨hw.v, hw.tos, hw.flow, hw.sv, hw.sl, hw.sb, hw.dv, hw.dl, hw.db, hw.proto, hw.ttl, hw.id0, hw.id1, by show i64ok (f : Int); simp only [i64ok]; omega, hw.o, hw.ol, (hw.d.drop f).take _, by show ((p.d.drop f).take (t - f)).length ≤ _; rw [List.length_take, List.length_drop]; omega⟩
  unfold partQ
  split
  · exact ⟨key.v, key.tos, key.flow, key.sv, key.sl, key.sb, key.dv, key.dl, key.db, key.proto, key.ttl, h0, h1, key.off, key.o, key.ol, key.d, key.dn⟩
  · exact key
def partsTo (p : Pk) (id : Int) : List Nat → List Pk
  | [] => []
  | c :: r => partsTo p id r ++ [partQ p (r.headD 0) c id]
structure Cps (r : List Nat) (b n : Nat) : Prop where
  fall : r.Pairwise (fun a b => b < a)
  in' : ∀ c ∈ r, c % 8 = 0 ∧ 0 < c ∧ c < n ∧ c < b
theorem Cps.head {r : List Nat} {b n : Nat} (h : Cps r b n) (hb : 0 < b) : r.headD 0 < b := by
  cases r with
  | nil => exact hb
  | cons c r => exact (h.in' c (by simp)).2.2.2
theorem Cps.cons {r : List Nat} {k n : Nat} (h : Cps r (8 * k) n) (hk : 0 < k) (hn : 8 * k < n) : Cps (8 * k :: r) (8 * (k + 1)) n :=
  ⟨List.pairwise_cons.2 ⟨fun c hc => (h.in' c hc).2.2.2, h.fall⟩, fun c hc => by
    rcases List.mem_cons.1 hc with rfl | hc
    · exact ⟨by omega, by omega, hn, by omega⟩
    · have := h.in' c hc; exact ⟨this.1, this.2.1, this.2.2.1, by omega⟩⟩
theorem Cps.more {r : List Nat} {k n : Nat} (h : Cps r (8 * k) n) : Cps r (8 * (k + 1)) n := ⟨h.fall, fun c hc => by have := h.in' c hc; exact ⟨this.1, this.2.1, this.2.2.1, by omega⟩⟩
def partedL (p : Pk) (id : Int) (r : List Nat) : List Pk := if r = [] then [p] else partsTo p id (p.d.length :: r)
def PartedOut (w : World) (p : Pk) (id : Int) (E : Ending) (w' : World) : Prop := ∃ v xs r b, E = .returned v ∧ Cuts w' w.heap.size v xs ∧ xs.map X.p = partedL p id r ∧ Cps r b p.d.length ∧ xs.length ≤ 20000 ∧ Away [] w w'
set_option maxHeartbeats 16000000 in
theorem parted_e (w : World) (p : Pk) (pd : Value) (a : Option Addr) (an ac : Nat) (id : Int) (hp : Pkt w p (.slice none 0 0) pd) (ho : p.o = []) (hl : p.d.length ≤ 100000) (hid : 0 ≤ id ∧ id ≤ 4294967295) (ha : Ints w a an) (han : an ≤ 140737488355328) :
    Calls Tryz.prog 21 #[.agg (csP p (.slice none 0 0) pd), .slice a an ac, .int .u32 id] w (PartedOut w p id) := by
  have HAD : Hid (Ad p) := hp.wf.ad
  have HPK := Lib.hid hp
  have HPO := Lib.hid ho
  have HID := Lib.hid hid
  have HIN := Lib.hid ha
  obtain ⟨da, dn0, dc, rfl⟩ : ∃ a n c, pd = .slice a n c := by obtain ⟨a, c, h, -⟩ := hp.d; exact ⟨_, _, _, h⟩
  obtain ⟨n, hn⟩ : ∃ n, n = p.d.length := ⟨_, rfl⟩
  obtain rfl : n = dn0 := by rw [hn]; exact hp.d.of.1
  have HN := Lib.hid hn
  have hl2 : n ≤ 100000 := by rw [hn]; exact hl
  clear hp ho hid ha hn hl
  go_enter Tryz.func21, Tryz.ntmps21
  go_wp2_with (refine wpList_box28 rfl _ rfl p _ _ rfl ?_; refine Hid.out ?_)
  refine Lib.hid ?_
  intro g3 w1 hg3 hb haw
  have HB := Lib.hid hb
  have HW := Lib.hid haw
  clear hb haw hg3
  have c45 := (HB.out.cells (by exact HAD.out)).d
  obtain ⟨M, hM⟩ : ∃ M : Nat, M = n / 8 + 1 := ⟨_, rfl⟩
  have q1 : (n : Int).tdiv 8 = ((n / 8 : Nat) : Int) := by rw [Int.tdiv_eq_ediv_of_nonneg (by omega)]; omega
  obtain ⟨n8, hn8⟩ : ∃ z : Nat, z = n / 8 := ⟨_, rfl⟩
  rw [← hn8] at q1 hM
  have q2 : IntKind.i64.wrap (n8 : Int) = (n8 : Int) := by rw [IntKind.wrap_i64]; omega
  have q3 : IntKind.i64.wrap ((n8 : Int) + 1) = (M : Int) := by rw [IntKind.wrap_i64]; omega
  have hmk := fun wx => make_book M (M : Int) rfl (by omega) wx
  have HM8 : Hid (M = n / 8 + 1) := by rw [← hn8]; exact hM
  clear hn8 hM
  go_wp2_with fail
  have HBK : Hid (Bkn (w1.alloc (bookN M)) w1.heap.size M (fun _ => false)) := book_new w1 M
  have HA1 : Hid (Away [] w1 (w1.alloc (bookN M))) := (Away.refl _ _).alloc _
  have HG3L : Hid (g3 < w1.heap.size) := HB.out.lt
  obtain ⟨wA, hwA⟩ : ∃ W, W = w1.alloc (bookN M) := ⟨_, rfl⟩
  rw [← hwA] at HBK HA1 ⊢
  obtain ⟨gB, hgB⟩ : ∃ z, z = w1.heap.size := ⟨_, rfl⟩
  rw [← hgB] at HBK HG3L ⊢
  have HGB : Hid (w1.heap.size ≤ gB) := Nat.le_of_eq hgB.symm
  clear hwA hgB hmk q1 q2 q3 c45
  go_loopw [9] (fun i wr => ∃ (k : Nat) (B : Int → Bool), k ≤ an ∧ i = .int .i64 (k : Int) ∧ Away [] w1 wr ∧ Bkn wr gB M B) (fun i _ => an - (intOf i).toNat)
  case atStart => exact ⟨0, _, by omega, rfl, HA1.out, HBK.out⟩
  case round =>
    obtain ⟨k, B, hk, rfl, haw, hbk⟩ := hrel
    clear HBK HA1
    have HAW := Lib.hid haw
    have HBK := Lib.hid hbk
    clear haw hbk
    by_cases hlt : k < an
    · as_aux_lemma =>
      have j1 : (k : Int) < (an : Int) := by omega
      have j2 : 0 ≤ (k : Int) := by omega
      have j3 : ((k : Nat) : Int).toNat = k := by omega
      obtain ⟨ab, ao, z, hao, hz, hzk⟩ := HIN.out k hlt
      subst hao
      have cz := (HW.out.trans HAW.out).cell (by simp) hz
      have hM1 : 1 ≤ M ∧ M ≤ 20000 := by have := HM8.out; omega
      obtain ⟨r, hr, hrM⟩ : ∃ r : Nat, Int.tmod (IntKind.u64.wrap z) (M : Int) = (r : Int) ∧ r < M := by
        have h0 : 0 ≤ IntKind.u64.wrap z := u64_pos _
        have h1 := Int.tmod_nonneg (M : Int) h0
        have h2 := Int.tmod_lt_of_pos (IntKind.u64.wrap z) (b := (M : Int)) (Int.ofNat_lt.2 hM1.1)
        refine ⟨(Int.tmod (IntKind.u64.wrap z) (M : Int)).toNat, (Int.toNat_of_nonneg h1).symm, ?_⟩
        have h3 := Int.toNat_of_nonneg h1
        generalize Int.tmod (IntKind.u64.wrap z) (M : Int) = y at h2 h3
        omega
      have q4 : IntKind.u64.wrap (M : Int) = (M : Int) := by show (M : Int) % 18446744073709551616 = _; omega
      have r1 : (0 : Int) ≤ (r : Int) := by omega
      have r2 : (r : Int) < (M : Int) := by omega
      have r3 : ((r : Nat) : Int).toNat = r := by omega
      have r4 : ¬ ((M : Int) = 0) := by omega
      have cb := HBK.out.row r hrM
      have fb := HBK.out.free r
      have HB2 := Lib.hid (HBK.out.set hrM)
      have HA2 : Hid (Away [] w1 (wr.setCell ⟨gB, r, none⟩ (.bool true))) := HAW.out.next (HBK.out.setA r) (fun x hx => .inr (by simp at hx; subst hx; exact HGB.out))
      clear hz hzk
      go_wp2_with fail
      go_roundw
      case rel => exact ⟨k + 1, _, by omega, by go_num, HA2.out, HB2.out⟩
      case measure => simp [intOf]; omega
    · as_aux_lemma =>
      obtain rfl : an = k := by omega
      have j1 : ¬ ((an : Int) < (an : Int)) := by omega
      replace HB := Lib.hid (HB.out.on HAW.out)
      replace HW := Lib.hid (HW.out.trans HAW.out)
      clear HAW
      obtain ⟨wB, hwB⟩ : ∃ W, W = wr := ⟨_, rfl⟩
      subst hwB
      have hw0 : w.heap.size ≤ wB.heap.size := HW.out.size
      have HW0 := Lib.hid hw0
      go_wp2_with fail
      go_loopw [10, 11, 12] (fun ov fv kv wr => ∃ (k : Nat) (v : Value) (xs : List X) (r : List Nat) (f : Nat), 1 ≤ k ∧ k ≤ M ∧ f = r.headD 0 ∧ v = ov ∧ fv = .int .i64 (f : Int) ∧ kv = .int .i64 (k : Int) ∧ Cuts wr wB.heap.size v xs ∧ xs.map X.p = partsTo p id r ∧ Cps r (8 * k) n ∧ Away [] wB wr ∧ xs.length ≤ k) (fun _ _ kv _ => M - (intOf kv).toNat)
      case atStart => exact ⟨1, _, [], [], 0, by omega, by have := HM8.out; omega, rfl, rfl, rfl, rfl, Cuts.nil _ _, rfl, ⟨.nil, by simp⟩, Away.refl _ _, by simp⟩
      case round =>
        obtain ⟨k, v, xs, r, f, hk1, hk, hf, rfl, rfl, rfl, hcu, hxs, hcp, haw, hxl⟩ := hrel
        have HF := Lib.hid hf; have HCU := Lib.hid hcu; have HXS := Lib.hid hxs; have HCP := Lib.hid hcp; have HAW := Lib.hid haw
        clear hcu hxs hcp haw hf
        have hM1 : 1 ≤ M ∧ M ≤ 20000 := by have := HM8.out; omega
        by_cases hlt : k < M
        · as_aux_lemma =>
          have j1 : (k : Int) < (M : Int) := by omega
          have j2 : 0 ≤ (k : Int) := by omega
          have j3 : ((k : Nat) : Int).toNat = k := by omega
          obtain ⟨c8, hc8⟩ : ∃ c : Nat, c = 8 * k := ⟨_, rfl⟩
          have j4 : IntKind.i64.wrap (8 * (k : Int)) = (c8 : Int) := by rw [IntKind.wrap_i64, hc8]; omega
          have HC8 := Lib.hid hc8
          clear hc8
          have cb : wr.cell? ⟨gB, k, none⟩ = some (.bool (B (k : Int))) := (HBK.out.on HAW.out).row k hlt
          have c45 := ((HB.out.on HAW.out).cells (by exact HAD.out)).d
          obtain ⟨bk, hbk⟩ : ∃ z, z = B (k : Int) := ⟨_, rfl⟩
          rw [← hbk] at cb
          clear hbk
          obtain ⟨bt, hbt⟩ : ∃ b, b = (bk && decide (c8 < n)) := ⟨_, rfl⟩
          go_upto_region 12 with fail
          go_cut [52] (fun x wx => x = .bool bt ∧ wx = wr)
          case first =>
            cases bk with
            | false =>
              go_wp2_with fail
              go_meet
              exact ⟨by rw [hbt, Bool.false_and], rfl⟩
            | true =>
              by_cases h8 : c8 < n
              · have j5 : (c8 : Int) < (n : Int) := by omega
                have hb2 : bt = true := by rw [hbt]; simp [h8]
                clear hbt
                subst hb2
                go_wp2_with fail
                go_meet
                exact ⟨rfl, rfl⟩
              · have j5 : ¬ ((c8 : Int) < (n : Int)) := by omega
                have hb2 : bt = false := by rw [hbt]; simp [h8]
                clear hbt
                subst hb2
                go_wp2_with fail
                go_meet
                exact ⟨rfl, rfl⟩
          case rest =>
            as_aux_lemma =>
            obtain ⟨rfl, hw'⟩ := hcut
            obtain rfl := hw'.symm
            clear hw' cb c45
            cases bt with
            | false =>
              clear hbt
              go_wp2_with fail
              go_roundw
              case rel => exact ⟨k + 1, v, xs, r, f, by omega, by omega, HF.out, rfl, rfl, by go_num, HCU.out, HXS.out, HCP.out.more, HAW.out, by omega⟩
              case measure => simp [intOf]; omega
            | true =>
              have h8 : c8 < n := by
                have h := hbt.symm
                rw [Bool.and_eq_true, decide_eq_true_eq] at h
                exact h.2
              clear hbt
              have HLT2 : f < c8 := by rw [HC8.out, HF.out]; exact HCP.out.head (by omega)
              have hnl := HN.out
              have hfn : f < c8 := HLT2
              have KP := Lib.hid (part_e wr p (.slice da n dc) id (HPK.out.on (HW.out.trans HAW.out)) HPO.out f (c8) hfn (by omega) (by omega))
              obtain ⟨fq, hfq⟩ : ∃ z, z = partQ p f (c8) id := ⟨_, rfl⟩
              have HFQ := Lib.hid hfq
              have HQW : Hid (Wf fq) := by show Wf fq; rw [hfq]; exact partq_wf HPK.out.wf HPO.out hfn (by omega) (by omega) HID.out.1 HID.out.2
              have HQA : Hid (Ad fq) := HQW.out.ad
              rw [← hfq] at KP
              clear hfq hfn hnl
              go_wp2_with (first
                | (refine wpList_load28 rfl _ rfl g3 rfl p _ _ (by exact HB.out.on HAW.out) (by exact HAD.out) ?_)
                | (go_at_call 39; refine KP.out.mono ?_; refine Hid.out ?_))
              refine Lib.hid ?_
              first
                | rintro E u1 dv rfl hmi haw
                | rintro E u1 ⟨dv, rfl, hmi, haw⟩
              obtain ⟨ea, en, ec, rfl⟩ := hmi.d.shp
              have HMI := Lib.hid hmi
              have HCU1 := Lib.hid (HCU.out.on haw)
              have HAW1 := Lib.hid (HAW.out.trans haw)
              have HVL : Hid (∀ z, v.ownBlock = some z → z < wr.heap.size) := HCU.out.lst.lt
              have HYL : Hid (∀ y ∈ xs, ∀ z, y.o.ownBlock = some z ∨ y.d.ownBlock = some z → z < wr.heap.size) := fun y hy z hz => ((HCU.out.each y hy).2.lto z hz).1
              have HXN : Hid (∀ z, (Value.slice none 0 0).ownBlock = some z ∨ (Value.slice ea en ec).ownBlock = some z → wr.heap.size ≤ z) := fun z hz => (hmi.lto z hz).2
              clear hmi haw KP
              go_wp2_with (refine wpList_build28 rfl _ rfl fq (.slice none 0 0) (.slice ea en ec) rfl (by exact HQA.out) ?_; refine Hid.out ?_)
              refine Lib.hid ?_
              intro gq u2 hgq hb haw
              have HBQ := Lib.hid hb
              replace HMI := Lib.hid (HMI.out.on haw)
              replace HCU1 := Lib.hid (HCU1.out.on haw)
              replace HAW1 := Lib.hid (HAW1.out.trans haw)
              clear hb haw hgq
              go_wp2_with (at_builtin; refine wpList_appP rfl _ _ rfl v xs rfl (by exact HCU1.out.lst) gq 1 rfl fq (.slice none 0 0) (.slice ea en ec) (by exact HBQ.out) (by exact HQA.out) rfl rfl (by omega) ?_; refine Hid.out ?_)
              refine Lib.hid ?_
              intro v2 u3 hl hgr hmv
              have HC2 : Hid (Cuts u3 wB.heap.size v2 (xs ++ [⟨fq, .slice none 0 0, .slice ea en ec⟩])) :=
                HCU1.out.snoc (x := ⟨fq, .slice none 0 0, .slice ea en ec⟩) ⟨HQW.out, HMI.out.mono HAW.out.size⟩ (fun y hy z hz => ⟨fun e => by have h1 := HYL.out y hy z hz; have h2 := HXN.out z (.inl e); omega, fun e => by have h1 := HYL.out y hy z hz; have h2 := HXN.out z (.inr e); omega⟩) (fun z hz e => by have h1 := HXN.out z hz; have h2 := HVL.out z e; omega) hl hgr hmv HAW1.out.size
              have HA2 : Hid (Away [] wB u3) := HAW1.out.grown hgr (fun z hz => .inr (HCU1.out.new z hz))
              have HXS2 : Hid ((xs ++ [(⟨fq, .slice none 0 0, .slice ea en ec⟩ : X)]).map X.p = partsTo p id (c8 :: r)) := by
                show _ = _
                rw [List.map_append, HXS.out, partsTo]
                simp only [List.map_cons, List.map_nil, HFQ.out, HF.out]
              clear hl hgr hmv HMI HCU1 HAW1 HBQ HVL HYL HXN
              go_wp2_with fail
              go_roundw
              case rel => exact ⟨k + 1, v2, _, 8 * k :: r, c8, by omega, by omega, HC8.out, rfl, rfl, by go_num, HC2.out, by rw [HXS2.out, HC8.out], HCP.out.cons (by omega) (HC8.out ▸ h8), HA2.out, by simp; omega⟩
              case measure => simp [intOf]; omega
        · as_aux_lemma =>
          obtain rfl : M = k := by omega
          have j1 : ¬ ((M : Int) < (M : Int)) := by omega
          cases r with
          | nil =>
            obtain rfl : f = 0 := HF.out
            have K5 := Lib.hid (own_e wr p (.slice none 0 0) (.slice da n dc) (HPK.out.on (HW.out.trans HAW.out)))
            unfold OwnOut at K5
            go_wp2_with (first
              | (refine wpList_load28 rfl _ rfl g3 rfl p _ _ (by exact HB.out.on HAW.out) (by exact HAD.out) ?_)
              | (go_at_call 11; refine K5.out.mono ?_; refine Hid.out ?_))
            refine Lib.hid ?_
            first
              | rintro E u1 vo vd rfl hmi haw
              | rintro E u1 ⟨vo, vd, rfl, hmi, haw⟩
            obtain ⟨xa, xn, xc, rfl⟩ := hmi.o.shp
            obtain ⟨ya, yn, yc, rfl⟩ := hmi.d.shp
            have HMI := Lib.hid hmi
            have HAW1 := Lib.hid (HAW.out.trans haw)
            have hs1 := HAW.out.size
            have hlt := hmi.lto
            clear hmi haw K5
            go_wp2_with (refine wpList_build28 rfl _ rfl p (.slice xa xn xc) (.slice ya yn yc) rfl (by exact HAD.out) ?_; refine Hid.out ?_)
            refine Lib.hid ?_
            intro gq u2 hgq hb haw
            have HC3 : Hid (Cuts u2 w.heap.size (.slice (some ⟨gq, 0, none⟩) 1 1) [⟨p, .slice xa xn xc, .slice ya yn yc⟩]) := Cuts.one hb HPK.out.wf ((HMI.out.on haw).mono (by have := HW0.out; omega)) (by have := HW0.out; have := HAW1.out.size; omega) (fun z hz e => by have := (hlt z hz).1; omega)
            have HA3 := Lib.hid (HAW1.out.trans haw)
            clear hb haw hgq
            go_wp2_with fail
            go_ret
            exact ⟨_, _, [], 8 * M, rfl, HC3.out, rfl, HN.out ▸ HCP.out, by simp, HW.out.trans HA3.out⟩
          | cons c r' =>
            obtain ⟨r, hr⟩ : ∃ r, r = c :: r' := ⟨_, rfl⟩
            have hc := HCP.out.in' c (by simp)
            have HLT2 : f < n := by rw [HF.out]; exact hc.2.2.1
            have hr0 : ¬ ((f : Int) = 0) := by have h : f = c := HF.out; have := hc.2.1; omega
            rw [← hr] at HXS HCP HF
            have HRN : Hid (r ≠ []) := by rw [hr]; exact (by simp : c :: r' ≠ [])
            clear hc hr
            have hr1 : ((f : Int) == 0) = false := by simpa using hr0
            have hnl := HN.out
            have hfn : f < n := HLT2
            have KP := Lib.hid (part_e wr p (.slice da n dc) id (HPK.out.on (HW.out.trans HAW.out)) HPO.out f (n) hfn (by omega) (by omega))
            obtain ⟨fq, hfq⟩ : ∃ z, z = partQ p f (n) id := ⟨_, rfl⟩
            have HFQ := Lib.hid hfq
            have HQW : Hid (Wf fq) := by show Wf fq; rw [hfq]; exact partq_wf HPK.out.wf HPO.out hfn (by omega) (by omega) HID.out.1 HID.out.2
            have HQA : Hid (Ad fq) := HQW.out.ad
            rw [← hfq] at KP
            clear hfq hfn hnl
            go_wp2_with (first
              | (refine wpList_load28 rfl _ rfl g3 rfl p _ _ (by exact HB.out.on HAW.out) (by exact HAD.out) ?_)
              | (go_at_call 39; refine KP.out.mono ?_; refine Hid.out ?_))
            refine Lib.hid ?_
            first
              | rintro E u1 dv rfl hmi haw
              | rintro E u1 ⟨dv, rfl, hmi, haw⟩
            obtain ⟨ea, en, ec, rfl⟩ := hmi.d.shp
            have HMI := Lib.hid hmi
            have HCU1 := Lib.hid (HCU.out.on haw)
            have HAW1 := Lib.hid (HAW.out.trans haw)
            have HVL : Hid (∀ z, v.ownBlock = some z → z < wr.heap.size) := HCU.out.lst.lt
            have HYL : Hid (∀ y ∈ xs, ∀ z, y.o.ownBlock = some z ∨ y.d.ownBlock = some z → z < wr.heap.size) := fun y hy z hz => ((HCU.out.each y hy).2.lto z hz).1
            have HXN : Hid (∀ z, (Value.slice none 0 0).ownBlock = some z ∨ (Value.slice ea en ec).ownBlock = some z → wr.heap.size ≤ z) := fun z hz => (hmi.lto z hz).2
            clear hmi haw KP
            go_wp2_with (refine wpList_build28 rfl _ rfl fq (.slice none 0 0) (.slice ea en ec) rfl (by exact HQA.out) ?_; refine Hid.out ?_)
            refine Lib.hid ?_
            intro gq u2 hgq hb haw
            have HBQ := Lib.hid hb
            replace HMI := Lib.hid (HMI.out.on haw)
            replace HCU1 := Lib.hid (HCU1.out.on haw)
            replace HAW1 := Lib.hid (HAW1.out.trans haw)
            clear hb haw hgq
            go_wp2_with (at_builtin; refine wpList_appP rfl _ _ rfl v xs rfl (by exact HCU1.out.lst) gq 1 rfl fq (.slice none 0 0) (.slice ea en ec) (by exact HBQ.out) (by exact HQA.out) rfl rfl (by omega) ?_; refine Hid.out ?_)
            refine Lib.hid ?_
            intro v2 u3 hl hgr hmv
            have HC2 : Hid (Cuts u3 wB.heap.size v2 (xs ++ [⟨fq, .slice none 0 0, .slice ea en ec⟩])) :=
              HCU1.out.snoc (x := ⟨fq, .slice none 0 0, .slice ea en ec⟩) ⟨HQW.out, HMI.out.mono HAW.out.size⟩ (fun y hy z hz => ⟨fun e => by have h1 := HYL.out y hy z hz; have h2 := HXN.out z (.inl e); omega, fun e => by have h1 := HYL.out y hy z hz; have h2 := HXN.out z (.inr e); omega⟩) (fun z hz e => by have h1 := HXN.out z hz; have h2 := HVL.out z e; omega) hl hgr hmv HAW1.out.size
            have HA2 : Hid (Away [] wB u3) := HAW1.out.grown hgr (fun z hz => .inr (HCU1.out.new z hz))
            have HXS2 : Hid ((xs ++ [(⟨fq, .slice none 0 0, .slice ea en ec⟩ : X)]).map X.p = partsTo p id (n :: r)) := by
              show _ = _
              rw [List.map_append, HXS.out, partsTo]
              simp only [List.map_cons, List.map_nil, HFQ.out, HF.out]
            clear hl hgr hmv HMI HCU1 HAW1 HBQ HVL HYL HXN
            go_wp2_with fail
            go_ret
            exact ⟨v2, _, r, 8 * M, rfl, HC2.out.mono HW0.out, by rw [HXS2.out]; unfold partedL; rw [if_neg HRN.out, ← HN.out], HN.out ▸ HCP.out, by have h8 := HM8.out; rw [List.length_append, List.length_singleton]; omega, HW.out.trans HA2.out⟩
def wideQ : Qo := ⟨64, 1048576, 8192, 1000⟩
theorem wide_e (w : World) : Calls Tryz.prog 22 #[] w fun E w' => E = .returned (valQ wideQ) ∧ Away [] w w' := by
  go_enter Tryz.func22, Tryz.ntmps22
  go_wp2_with fail
  exact bodyPost_ret (results_cell_row rfl _ _ w.heap.size _ _ _ _ rfl (heap_alloc_new w _) Tryz.underlying23 rfl (by kernel_rfl)) rfl ⟨rfl, (Away.refl _ _).alloc _⟩
end Go.Proofs.YtkccpidgeecemaaGreatDoor
