/-
  What is cut is a fragmentation. Plain data.
-/
import Derived.Test.YtaicckenpplceaaGreatDoorCt
namespace Go.Proofs.YtaicckenpplceaaGreatDoor
open Num
set_option linter.unusedVariables false

theorem pcs_nil {p : Pk} {m : Int} {lat f : Pk} {k n : Nat} (h : ¬ n < p.d.length) : pcsP p m lat k f n = [] := by
  cases k with
  | zero => rfl
  | succ k => rw [pcsP, if_neg h]
theorem pcs_empty {p : Pk} {m : Int} {lat f : Pk} {k n : Nat} (h : p.d.length - n ≤ k) : (pcsP p m lat k f n).isEmpty = decide (¬ n < p.d.length) := by
  by_cases hn : n < p.d.length
  · obtain ⟨j, rfl⟩ : ∃ j, k = j + 1 := ⟨k - 1, by omega⟩
    rw [pcsP, if_pos hn]; simp [hn]
  · rw [pcs_nil hn]; simp; omega
/-- What the next piece takes. -/
structure Took (p : Pk) (f : Pk) (m : Int) (n s : Nat) : Prop where
  eq : s = shareP (p.d.length - n) (roomP f m) p.v
  pos : 0 < s
  le : n + s ≤ p.d.length
  room : s ≤ roomP f m
  d8 : n + s = p.d.length ∨ s % 8 = 0
  len : ((p.d.drop n).take s).length = s
  long : (topP f : Int) + s ≤ m
  six : p.v = 6 → s ≤ 65527
theorem took {p f : Pk} {m : Int} (h : Unc p) (hw : Wf p) (hf : Frm p f) (hm : mtuP m p.v = true) {n : Nat} (hn : n < p.d.length) : Took p f m n (shareP (p.d.length - n) (roomP f m) p.v) := by
  obtain ⟨r1, r2, r3, r4, r5, r6, r7⟩ := room_eq h hw hf hm
  have s1 := share_le (p.d.length - n) (roomP f m) p.v
  have s2 := share_room (p.d.length - n) (roomP f m) p.v
  have s3 := share_pos (p.d.length - n) (roomP f m) p.v (by omega) r3
  have s4 := share_8 (p.d.length - n) (roomP f m) p.v
  generalize hs : shareP (p.d.length - n) (roomP f m) p.v = s at *
  exact ⟨hs.symm, s3, by omega, s2, by omega, by simp; omega, by omega, fun hv => by have := r6 hv; omega⟩
theorem part_pcs {p lat : Pk} {m : Int} (h : Unc p) (hw : Wf p) (hl : Frm p lat) (hm : mtuP m p.v = true) : ∀ (k : Nat) (f : Pk) (n : Nat), Frm p f → p.d.length - n ≤ k → n ≤ p.d.length → (n = p.d.length ∨ n % 8 = 0) → partP p m lat f n (pcsP p m lat k f n) = true
  | 0, f, n, hf, hk, hn, h8 => by
    rw [pcsP, partP]; simp; omega
  | k + 1, f, n, hf, hk, hn, h8 => by
    by_cases hlt : n < p.d.length
    · have ht := took h hw hf hm hlt
      rw [pcsP, if_pos hlt]
      generalize shareP (p.d.length - n) (roomP f m) p.v = s at *
      have hle := ht.le
      have hlen := ht.len
      have hpos := ht.pos
      have h8' : n % 8 = 0 := by omega
      have hr : rgtP (plcP f n ((p.d.drop n).take s) (decide (s < p.d.length - n))) = true :=
        piece_right h hw hf n _ _ (by rw [ht.len]; exact hpos) h8' (by rw [ht.len]; exact hle) (fun e => by rw [ht.len]; have := ht.d8; have := of_decide_eq_true e; omega) (fun hv => by rw [ht.len]; exact ht.six hv)
      have hfit : fitsP (plcP f n ((p.d.drop n).take s) (decide (s < p.d.length - n))) m = true := by
        rw [fits_iff]
        refine ⟨hr, ?_⟩
        have := ht.long
        rw [plc_top]
        show ((topP f + ((p.d.drop n).take s).length : Nat) : Int) ≤ m
        rw [hlen]; omega
      rw [partP, hfit, show (plcP f n ((p.d.drop n).take s) (decide (s < p.d.length - n))).d.length = s from hlen, pcs_empty (by omega),
        part_pcs h hw hl hm k lat (n + s) hl (by omega) hle (by have := ht.d8; omega)]
      have e : (!decide (¬ n + s < p.d.length)) = decide (s < p.d.length - n) := by
        by_cases c : n + s < p.d.length
        · simp [c]; omega
        · simp [c]; omega
      rw [e]
      simp [hle]
    · rw [pcs_nil hlt, partP]; simp; omega
theorem fst_id (p : Pk) (id : Int) : fstP p (fstP p id).id = fstP p id := by
  by_cases hv : p.v = 6
  · simp [fstP, hv]
  · simp [fstP, hv]
theorem lat_id (p : Pk) (id : Int) : latP p (fstP p id).id = latP p id := by unfold latP; rw [fst_id]
/-- A packet that does not fit: its first piece is not all. -/
theorem cut_two {p : Pk} {m id : Int} (h : Unc p) (hw : Wf p) (h0 : 0 ≤ id) (h1 : id ≤ 4294967295) (hm : mtuP m p.v = true) (hno : fitsP p m = false) :
    ∃ s q r, Took p (fstP p id) m 0 s ∧ s < p.d.length ∧ cutL p m id = plcP (fstP p id) 0 (p.d.take s) true :: q :: r ∧ q :: r = pcsP p m (latP p id) (p.d.length - 1) (latP p id) s := by
  have hf := h.fst hw h0 h1
  obtain ⟨r1, r2, r3, r4, r5, r6, r7⟩ := room_eq h hw hf hm
  have hbig : m < topP p + p.d.length := by
    by_cases e : m < topP p + p.d.length
    · exact e
    · rw [(fits_iff p m).2 ⟨h.r, by omega⟩] at hno; simp at hno
  have htop : topP p ≤ topP (fstP p id) := by
    rw [fst_top]; unfold topP
    by_cases hv : p.v = 6
    · rw [if_pos hv, if_pos hv]; unfold S6.hofP; rw [h.frag]; simp
    · rw [if_neg hv, if_neg hv]; exact Nat.le_refl _
  have hpos : 0 < p.d.length := by omega
  have ht := took h hw hf hm hpos
  have hlt : shareP (p.d.length - 0) (roomP (fstP p id) m) p.v < p.d.length := by have := ht.room; omega
  obtain ⟨k, hk⟩ : ∃ k, p.d.length = k + 1 := ⟨p.d.length - 1, by omega⟩
  have e : cutL p m id = plcP (fstP p id) 0 ((p.d.drop 0).take (shareP (p.d.length - 0) (roomP (fstP p id) m) p.v)) (decide (shareP (p.d.length - 0) (roomP (fstP p id) m) p.v < p.d.length - 0)) :: pcsP p m (latP p id) k (latP p id) (0 + shareP (p.d.length - 0) (roomP (fstP p id) m) p.v) := by
    have e1 : cutL p m id = pcsP p m (latP p id) (k + 1) (fstP p id) 0 := by unfold cutL; rw [hk]
    rw [e1, pcsP, if_pos hpos]
  rw [e]
  generalize shareP (p.d.length - 0) (roomP (fstP p id) m) p.v = s at *
  have hemp := pcs_empty (p := p) (m := m) (lat := latP p id) (f := latP p id) (k := k) (n := 0 + s) (by have := ht.pos; omega)
  cases hq : pcsP p m (latP p id) k (latP p id) (0 + s) with
  | nil => rw [hq] at hemp; simp at hemp; omega
  | cons q r =>
    refine ⟨s, q, r, ht, hlt, ?_, ?_⟩
    · rw [show decide (s < p.d.length - 0) = true from by simp; omega]; rfl
    · rw [← hq, Nat.zero_add, hk]; rfl
theorem is_cut {p : Pk} {m id : Int} (h : Unc p) (hw : Wf p) (h0 : 0 ≤ id) (h1 : id ≤ 4294967295) (hm : mtuP m p.v = true) (hno : fitsP p m = false) (hdf : p.df = false) : isP p m (cutL p m id) = true := by
  obtain ⟨s, q, r, ht, hlt, e, -⟩ := cut_two h hw h0 h1 hm hno
  have hp := part_pcs h hw (h.lat hw h0 h1) hm p.d.length (fstP p id) 0 (h.fst hw h0 h1) (by omega) (by omega) (by omega)
  unfold isP
  rw [(uncut_iff p).2 h, hm]
  change partP p m (latP p id) (fstP p id) 0 (cutL p m id) = true at hp
  rw [e] at hp ⊢
  show (true && true && (!p.df && partP p m (latP p (fstP p id).id) (fstP p (fstP p id).id) 0 _)) = true
  rw [hdf, fst_id, lat_id, hp]; rfl
theorem is_alone {p : Pk} {m : Int} (h : Unc p) (hm : mtuP m p.v = true) (hf : fitsP p m = true) : isP p m [p] = true := by
  unfold isP; rw [(uncut_iff p).2 h, hm]; simp [hf]
theorem is_not {p : Pk} {m : Int} (l : List Pk) (h : (uncutP p && mtuP m p.v) = false) : isP p m l = false := by unfold isP; rw [h]; rfl
theorem cut_not {p : Pk} {m id : Int} (h : (uncutP p && mtuP m p.v) = false) : cutP p m id = ([], 1) := by unfold cutP; rw [h]; rfl
#print axioms is_cut
end Go.Proofs.YtaicckenpplceaaGreatDoor
