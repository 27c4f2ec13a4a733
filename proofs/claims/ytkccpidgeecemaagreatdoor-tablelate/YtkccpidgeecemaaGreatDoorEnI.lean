/-
  What an entry's numbers keep to, call by call.
-/
import Derived.Test.YtkccpidgeecemaaGreatDoorLay
namespace Go.Proofs.YtkccpidgeecemaaGreatDoor
set_option linter.unusedVariables false
set_option linter.unusedSimpArgs false
set_option maxRecDepth 20000
theorem cnt_le (f : Int → Bool) : ∀ N : Nat, 0 ≤ H.cnt f N ∧ H.cnt f N ≤ N
  | 0 => by simp [H.cnt]
  | N + 1 => by
    have := cnt_le f N
    unfold H.cnt
    split <;> push_cast <;> omega
theorem plc_of {p : Pk} (h : rgt2 p = true) (hc : (decide (0 < p.off) || p.more) = true) : Plc p := by
  unfold rgt2 at h
  rw [Bool.or_eq_true] at h hc
  rw [decide_eq_true_eq] at hc
  rcases h with h | h
  · obtain ⟨hf, -⟩ := (right_iff p).1 h
    refine ⟨hf.o0, hf.o1, ?_, hf.reach⟩
    rcases hc with hc | hc
    · have := hf.f0 hc; omega
    · have := hf.m0 hc; omega
  · have hf := (S6.right_iff p).1 h
    refine ⟨hf.o0, hf.o1, ?_, hf.reach⟩
    have := hf.mn (hc.elim .inr .inl)
    omega
theorem opt_of {p : Pk} (h : rgt2 p = true) : p.o.length ≤ 40 := by
  unfold rgt2 at h
  rw [Bool.or_eq_true] at h
  rcases h with h | h
  · exact (valid_len ((right_iff p).1 h).2).1
  · rw [((S6.right_iff p).1 h).o]; simp
theorem ver_of {p : Pk} (h : rgt2 p = true) : p.v = 4 ∨ p.v = 6 := by
  unfold rgt2 at h
  rw [Bool.or_eq_true] at h
  rcases h with h | h
  · exact .inl ((right_iff p).1 h).1.v
  · exact .inr ((S6.right_iff p).1 h).v
theorem hd_bd (p : Pk) (h : p.o.length ≤ 40) : 0 ≤ hdP p ∧ hdP p ≤ 60 := by unfold hdP; split <;> omega
structure Iv (s : Es) (T : Int → Bool) : Prop extends Inv s T where
  pt : ∀ o k, 0 ≤ o → o ≤ k → k < (s.ps o).1 → T k = true
theorem iv_new (k : Pk) (t : Int) : Iv (newS k t) (fun _ => false) := by
  refine ⟨⟨H.ho_new, by rw [H.cnt_none]; rfl, by simp [newS], by simp [newS]; exact Bytes.nil, by simp [newS], by simp [newS], by simp [newS], by simp [newS], zero_wf, rfl, by simp [newS, zeroPk], by simp⟩, fun o k h1 h2 h3 => ?_⟩
  simp [newS] at h3
  omega
theorem end_nat' {p : Pk} (h : Plc p) : ((endP p).toNat : Int) = p.off + p.d.length ∧ (endP p).toNat ≤ 65535 := by have h1 := h.o0; have h2 := h.tt; unfold endP; omega
theorem lays_len' {s : Es} {p : Pk} {fr : List H.Sp} (hq : Plc p) (hf : FrIn p fr) : (layS s p fr).d.length = max s.d.length (endP p).toNat := by
  have := end_nat' hq
  show (fr.foldl (laySp p.off p.d) (grow s.d (endP p).toNat)).length = _
  rw [layd_len hq fr _ hf (by rw [grow_len]; unfold endP at *; omega), grow_len]
section
variable {s : Es} {T : Int → Bool} {p : Pk}
def TT (T : Int → Bool) (p : Pk) : Int → Bool := fun k => T k || H.inS (p.off, p.off + p.d.length) k
theorem fresh_fin (h : H.Ho T s.m s.e) (hok : H.putOk s.m s.e p.off p.d.length p.more = true) (hq : Plc p) : FrIn p (freshE s p) ∧ (freshE s p).length ≤ 65535 ∧ H.rightP (freshE s p) = true ∧ (∀ k, H.inB (freshE s p) k = (H.inS (p.off, p.off + p.d.length) k && !T k)) := by
  unfold H.putOk at hok
  rw [Bool.and_eq_true] at hok
  have hf := H.fresh_ho h hok.1 hok.2
  have hr := hf.right
  refine ⟨fun x hx => ?_, by have := H.right_short hr; unfold freshE; omega, hr, hf.has⟩
  have hi := H.right_is hr x hx
  unfold H.Is at hi
  have h1 := hf.has x.1
  have h2 := hf.has (x.2 - 1)
  rw [show H.inB (H.freshP s.m (p.off, p.off + p.d.length)) x.1 = true from H.inB_iff.2 ⟨x, hx, by omega, by omega⟩] at h1
  rw [show H.inB (H.freshP s.m (p.off, p.off + p.d.length)) (x.2 - 1) = true from H.inB_iff.2 ⟨x, hx, by omega, by omega⟩] at h2
  have h1 := h1.symm
  have h2 := h2.symm
  rw [Bool.and_eq_true, H.inS_iff] at h1 h2
  simp only at h1 h2
  unfold endP
  exact ⟨by omega, by omega, by omega⟩
theorem fresh_len (h : H.Ho T s.m s.e) (hok : H.putOk s.m s.e p.off p.d.length p.more = true) (hq : Plc p) : H.cnt T 65535 + H.lenP (freshE s p) = H.cnt (TT T p) 65535 ∧ H.sizeP (freshE s p) = H.lenP (freshE s p) := by
  obtain ⟨-, -, hr, hh⟩ := fresh_fin h hok hq
  refine ⟨?_, by unfold H.sizeP; rw [if_pos hr]⟩
  rw [H.len_cnt _ _ hr, ← H.cnt_or T (H.inB (freshE s p)) 65535 (fun n hn => by rw [hh, hn]; simp)]
  refine H.cnt_congr (fun n _ => ?_)
  unfold TT
  rw [hh]
  cases T n <;> simp
theorem beg_eq (s : Es) (p : Pk) : (begS s p).m = s.m ∧ (begS s p).e = s.e ∧ (begS s p).d = s.d ∧ (begS s p).h = s.h ∧ (begS s p).ps = s.ps ∧ (begS s p).bad = s.bad ∧ (begS s p).k = s.k ∧ (begS s p).tb = s.tb := by
  unfold begS; split <;> exact ⟨rfl, rfl, rfl, rfl, rfl, rfl, rfl, rfl⟩
theorem put_en (h : H.Ho T s.m s.e) (hok : H.putOk s.m s.e p.off p.d.length p.more = true) : -1 ≤ H.putE s.e p.off p.d.length p.more ∧ H.putE s.e p.off p.d.length p.more ≤ 65535 := by
  have := (H.put_ho h hok).en
  omega
theorem take_iv (hi : Iv s T) (hq : Plc p) (hw : Wf p) (ho : p.o.length ≤ 40) (h4 : (takeS s p).1 ≠ 4) : Iv (takeS s p).2 (TT T p) := by
  have hok : H.putOk s.m s.e p.off p.d.length p.more = true := by
    cases hk : H.putOk s.m s.e p.off p.d.length p.more with
    | true => rfl
    | false => exfalso; apply h4; unfold takeS; rw [if_pos hk]
  have hho := H.put_ho hi.ho hok
  obtain ⟨hfin, hfl, hfr, hfh⟩ := fresh_fin hi.ho hok hq
  obtain ⟨hcn, hsz⟩ := fresh_len hi.ho hok hq
  obtain ⟨b1, b2, b3, b4, b5, b6, b7, b8⟩ := beg_eq (listS s p) p
  have hfl' : (begS (listS s p) p).fl ≤ max s.d.length (endP p).toNat := by
    have h1 := hi.fl
    have h2 := hq.o0
    unfold begS
    split
    · show s.fl ≤ _; omega
    · rename_i hc
      show p.d.length ≤ _
      have : p.off = 0 := by omega
      unfold endP; omega
  have hff : Wf (begS (listS s p) p).f ∧ (begS (listS s p) p).f.d = [] ∧ (begS (listS s p) p).f.o.length ≤ 40 ∧ (0 ≤ (begS (listS s p) p).hd ∧ (begS (listS s p) p).hd ≤ 60) := by
    unfold begS
    split
    · exact ⟨hi.fw, hi.fd, hi.fo, hi.hd⟩
    · exact ⟨⟨hw.v, hw.tos, hw.flow, hw.sv, hw.sl, hw.sb, hw.dv, hw.dl, hw.db, hw.proto, hw.ttl, hw.id0, hw.id1, hw.off, hw.o, hw.ol, Bytes.nil, by simp⟩, rfl, ho, hd_bd p ho⟩
  have hen := end_nat' hq
  generalize hs2 : begS (listS s p) p = s2 at *
  have hm2 : s2.m = H.putM s.m p.off p.d.length p.more := b1
  have he2 : s2.e = H.putE s.e p.off p.d.length p.more := b2
  have hd2 : s2.d = s.d := b3
  have hh2 : s2.h = s.h := b4
  have hp2 : s2.ps = s.ps := b5
  have hho2 : H.Ho (TT T p) s2.m s2.e := by rw [hm2, he2]; exact hho
  have hel : s2.e ≤ max s.d.length (endP p).toNat := by
    rw [he2]; have := hi.en; unfold H.putE; split
    · omega
    · unfold endP; omega
  -- laid
  have hlay : ∀ ps : Int → Int × Bool, (∀ o, (ps o).1 ≤ max s.d.length (endP p).toNat) → (∀ o k, 0 ≤ o → o ≤ k → k < (ps o).1 → TT T p k = true) → Iv { layS s2 p (freshE s p) with ps := ps } (TT T p) := fun ps hps hpt => by
    have hl := lays_len' (s := s2) hq hfin
    rw [hd2] at hl
    refine ⟨⟨hho2, ?_, ?_, ?_, ?_, ?_, ?_, hff.2.2.2, hff.1, hff.2.1, hff.2.2.1, ?_⟩, hpt⟩
    · show s2.h + H.lenP (freshE s p) = _
      rw [hh2, hi.cnt, hcn]
    · show (layS s2 p (freshE s p)).d.length ≤ 65535
      rw [hl]; have := hi.dl; omega
    · show Bytes (layS s2 p (freshE s p)).d
      exact layd_bytes hw.d _ _ (grow_bytes (by rw [hd2]; exact hi.db) _)
    · show s2.fl ≤ (layS s2 p (freshE s p)).d.length
      rw [hl]; exact hfl'
    · show s2.e ≤ ((layS s2 p (freshE s p)).d.length : Int)
      rw [hl]; omega
    · intro o
      show (ps o).1 ≤ ((layS s2 p (freshE s p)).d.length : Int)
      rw [hl]; have := hps o; omega
    · intro n hn
      show n < ((layS s2 p (freshE s p)).d.length : Int)
      rw [hl]
      unfold TT at hn
      rw [Bool.or_eq_true, H.inS_iff] at hn
      rcases hn with hn | hn
      · have := hi.there n hn; omega
      · simp only at hn; unfold endP; omega
  have hmono : ∀ k, T k = true → TT T p k = true := fun k hk => by unfold TT; rw [hk]; rfl
  have hlay0 := hlay s2.ps (fun o => by rw [hp2]; have := hi.ps o; omega) (fun o k h1 h2 h3 => by rw [hp2] at h3; exact hmono k (hi.pt o k h1 h2 h3))
  have hself : { layS s2 p (freshE s p) with ps := s2.ps } = layS s2 p (freshE s p) := rfl
  rw [hself] at hlay0
  unfold takeS at h4 ⊢
  rw [if_neg (by rw [hok]; simp), hs2] at h4 ⊢
  by_cases hv : p.v = 6
  · rw [if_pos hv] at h4 ⊢
    unfold take6 at h4 ⊢
    by_cases h6 : H.sizeP (freshE s p) = p.d.length
    · rw [if_pos h6]
      refine hlay _ (fun o => ?_) (fun o k h1 h2 h3 => ?_)
      · show (if o = p.off then (endP p, p.more) else s2.ps o).1 ≤ _
        split
        · show endP p ≤ _; unfold endP; omega
        · rw [hp2]; have := hi.ps o; omega
      · have h3 : k < (if o = p.off then (endP p, p.more) else s2.ps o).1 := h3
        split at h3
        · rename_i he
          have h3 : k < endP p := h3
          unfold TT
          rw [Bool.or_eq_true]; right
          rw [H.inS_iff]; unfold endP at h3; simp only; omega
        · rw [hp2] at h3; exact hmono k (hi.pt o k h1 h2 h3)
    · rw [if_neg h6] at h4 ⊢
      by_cases h7 : s2.ps p.off = (endP p, p.more) ∧ agrP s2 p = true
      · rw [if_pos h7]
        have h8 : (s.ps p.off).1 = endP p := by rw [← hp2, h7.1]
        have hsub : ∀ k, H.inS (p.off, p.off + p.d.length) k = true → T k = true := fun k hk => by
          rw [H.inS_iff] at hk
          simp only at hk
          exact hi.pt p.off k hq.o0 hk.1 (by rw [h8]; unfold endP; omega)
        have heq : TT T p = T := by
          funext k
          unfold TT
          cases hT : T k with
          | true => rfl
          | false =>
            cases hk : H.inS (p.off, p.off + p.d.length) k with
            | false => rfl
            | true => rw [hsub k hk] at hT; simp at hT
        have hdl : (endP p).toNat ≤ s.d.length := by have := hi.ps p.off; rw [h8] at this; omega
        rw [heq] at hho2 ⊢
        exact ⟨⟨hho2, by rw [hh2]; exact hi.cnt, by rw [hd2]; exact hi.dl, by rw [hd2]; exact hi.db, by show s2.fl ≤ s2.d.length; rw [hd2]; omega, by show s2.e ≤ (s2.d.length : Int); rw [hd2]; omega, by rw [hd2, hp2]; exact hi.ps, hff.2.2.2, hff.1, hff.2.1, hff.2.2.1, by rw [hd2]; exact hi.there⟩, by rw [hp2]; exact hi.pt⟩
      · rw [if_neg h7] at h4; simp at h4
  · rw [if_neg hv] at h4 ⊢
    unfold take4 at h4 ⊢
    by_cases h5 : long4 s2 = true
    · rw [if_pos h5] at h4; simp at h4
    · rw [if_neg h5] at h4 ⊢
      by_cases h6 : agrP (layS s2 p (freshE s p)) p = false
      · rw [if_pos h6] at h4; simp at h4
      · rw [if_neg h6]
        split <;> exact hlay0
end
end Go.Proofs.YtkccpidgeecemaaGreatDoor
