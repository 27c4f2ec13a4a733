/-
  How long a list Recut tells. Plain data.
-/
import Derived.Test.YtaicckenpplceabGreatDoorRecM
namespace Go.Proofs.YtaicckenpplceabGreatDoor
open Go.ChangeShapes Go.WideShapes Go.ChangeAt Go.RowKit Num
set_option linter.unusedVariables false
set_option maxHeartbeats 4000000

namespace R
theorem unr_v4 {p : Pk} (h : rgtP p = true) (hv : p.v = 4) : rightP p = true := by
  unfold rgtP at h; rwa [if_neg (by omega)] at h
/-- The options that a piece at n has. -/
def oD (p : Pk) (n : Nat) : List Int := if n = 0 then p.o else carryP p.o
/-- The frame of a piece at n. -/
def frD (p : Pk) (n : Nat) : Pk := if n = 0 then fstP p 0 else latP p 0
/-- A piece, as the document has it. -/
def pcR (p : Pk) (o : List Int) (n t : Nat) (b : Bool) : Pk := { p with o := o, off := p.off + n, d := (p.d.drop n).take (t - n), more := b }
theorem frD_eq {p : Pk} (hv : p.v ≠ 6) (n : Nat) : frD (unP p) n = { unP p with d := [], o := oD p n } := by
  unfold frD oD latP fstP
  have hv' : (unP p).v ≠ 6 := hv
  by_cases hn : n = 0
  · rw [if_pos hn, if_pos hn, if_neg hv']; rfl
  · rw [if_neg hn, if_neg hn, if_neg hv']; rfl
theorem frD_top {p : Pk} (hv : p.v ≠ 6) (n : Nat) : topP (frD (unP p) n) = 20 + (oD p n).length := by
  rw [frD_eq hv]; unfold topP; exact if_neg (show ¬ p.v = 6 from hv)
theorem frD_frm {p : Pk} (h : Unc (unP p)) (hw : Wf p) (n : Nat) : Frm (unP p) (frD (unP p) n) := by
  unfold frD; split
  · exact h.fst (un_wf hw) (by omega) (by omega)
  · exact h.lat (un_wf hw) (by omega) (by omega)
theorem off_bd {p : Pk} (h : rgtP p = true) (hv : p.v ≠ 6) : 0 ≤ p.off ∧ p.off % 8 = 0 ∧ p.off + p.d.length ≤ 65535 ∧ p.off ≤ 65528 := by
  unfold rgtP at h; rw [if_neg hv, right_iff] at h
  exact ⟨h.1.o0, h.1.o8, h.1.reach, h.1.o1⟩
theorem sh_plc {p : Pk} (hv : p.v ≠ 6) (n t : Nat) (b : Bool) (hb : 0 ≤ p.off ∧ p.off ≤ 65528) (hn : n ≤ 65535) : shP p.off (plcP (frD (unP p) n) n ((p.d.drop n).take (t - n)) b) = pcR p (oD p n) n t b := by
  rw [frD_eq hv]
  have e : wrap64 ((n : Int) + p.off) = p.off + n := by unfold wrap64; omega
  show ({ p with off := wrap64 ((n : Int) + p.off), more := b, d := (p.d.drop n).take (t - n), o := oD p n } : Pk) = _
  rw [e]; rfl
theorem lastM_cons (b : Bool) (x : Pk) {l : List Pk} (h : l ≠ []) : lastM b (x :: l) = x :: lastM b l := by
  cases l with
  | nil => exact absurd rfl h
  | cons y r => rfl
/-- What is still to be cut. -/
def restD (p : Pk) (m : Int) (k n : Nat) : List Pk := lastM p.more ((pcsP (unP p) m (latP (unP p) 0) k (frD (unP p) n) n).map (shP p.off))
theorem rest_start (p : Pk) (m : Int) : restD p m p.d.length 0 = recutL p m := rfl
structure Cuttable (p : Pk) (m : Int) : Prop where
  r : rgtP p = true
  v : p.v ≠ 6
  mt : mtuP m 4 = true
  w : Wf p
theorem Cuttable.room {p : Pk} {m : Int} (h : Cuttable p m) (n : Nat) : roomP (frD (unP p) n) m = (m - 20 - (oD p n).length).toNat ∧ 8 ≤ (m - 20 - (oD p n).length).toNat ∧ (oD p n).length ≤ 40 ∧ m ≤ 65535 := by
  have hu := un_right h.r h.v
  have hv4 := v4 h.r h.v
  have hm' : mtuP m (unP p).v = true := by show mtuP m p.v = true; rw [hv4]; exact h.mt
  obtain ⟨r1, r2, r3, r4, r5, r6, r7⟩ := room_eq hu (un_wf h.w) (frD_frm hu h.w n) hm'
  have ht := frD_top h.v n
  have h60 := (frame_right hu (un_wf h.w) (frD_frm hu h.w n)).2.2.1
  rw [ht] at r2 r4 h60
  refine ⟨by rw [r2]; congr 1; omega, by rw [r2] at r3; omega, by omega, r5⟩
theorem Cuttable.len {p : Pk} {m : Int} (h : Cuttable p m) : p.d.length ≤ 65535 := (un_right h.r h.v).all.1
theorem share4 {left room : Nat} {v : Int} (hv : v ≠ 6) : shareP left room v = if left ≤ room then left else room / 8 * 8 := by unfold shareP; rw [if_neg hv]
theorem Cuttable.last {p : Pk} {m : Int} (h : Cuttable p m) {k n : Nat} (hn : n < p.d.length) (hk : p.d.length - n ≤ k) (hf : ¬ m < 20 + (oD p n).length + p.d.length - n) :
    restD p m k n = [pcR p (oD p n) n p.d.length p.more] := by
  obtain ⟨r1, r2, r3, r4⟩ := h.room n
  have hl := h.len
  have hb := off_bd h.r h.v
  obtain ⟨j, rfl⟩ : ∃ j, k = j + 1 := ⟨k - 1, by omega⟩
  unfold restD
  have e0 : (unP p).d = p.d := rfl
  have es : shareP ((unP p).d.length - n) (roomP (frD (unP p) n) m) (unP p).v = p.d.length - n := by
    rw [share4 (show (unP p).v ≠ 6 from h.v), e0, r1, if_pos (by omega)]
  rw [pcsP, if_pos (show n < (unP p).d.length from hn), es, pcs_nil (by rw [e0]; omega)]
  show [moP p.more (shP p.off (plcP (frD (unP p) n) n ((p.d.drop n).take (p.d.length - n)) _))] = _
  rw [sh_plc h.v n p.d.length _ ⟨hb.1, hb.2.2.2⟩ (by omega)]
  rfl
theorem Cuttable.more {p : Pk} {m : Int} (h : Cuttable p m) {k n : Nat} (hn : n < p.d.length) (hk : p.d.length - n ≤ k) (hf : m < 20 + (oD p n).length + p.d.length - n) :
    ∃ s : Nat, s = (m - 20 - (oD p n).length).toNat / 8 * 8 ∧ 8 ≤ s ∧ n + s < p.d.length ∧ p.d.length - (n + s) ≤ k - 1 ∧ restD p m k n = pcR p (oD p n) n (n + s) true :: restD p m (k - 1) (n + s) := by
  obtain ⟨r1, r2, r3, r4⟩ := h.room n
  have hl := h.len
  have hb := off_bd h.r h.v
  obtain ⟨j, rfl⟩ : ∃ j, k = j + 1 := ⟨k - 1, by omega⟩
  have hlt : n + (m - 20 - (oD p n).length).toNat / 8 * 8 < p.d.length := by omega
  refine ⟨_, rfl, by omega, hlt, by omega, ?_⟩
  have e0 : (unP p).d = p.d := rfl
  have es : shareP ((unP p).d.length - n) (roomP (frD (unP p) n) m) (unP p).v = (m - 20 - (oD p n).length).toNat / 8 * 8 := by
    rw [share4 (show (unP p).v ≠ 6 from h.v), e0, r1, if_neg (by omega)]
  generalize hs : (m - 20 - (oD p n).length).toNat / 8 * 8 = s at *
  have hne : (pcsP (unP p) m (latP (unP p) 0) j (latP (unP p) 0) (n + s)).map (shP p.off) ≠ [] := by
    obtain ⟨i, rfl⟩ : ∃ i, j = i + 1 := ⟨j - 1, by omega⟩
    rw [pcsP, if_pos (show n + s < (unP p).d.length from hlt)]; simp
  have el : frD (unP p) (n + s) = latP (unP p) 0 := by unfold frD; rw [if_neg (by omega)]
  unfold restD
  rw [pcsP, if_pos (show n < (unP p).d.length from hn), es, List.map_cons, lastM_cons _ _ hne, el]
  congr 1
  have ed : decide (s < (unP p).d.length - n) = true := by rw [e0]; simp; omega
  rw [ed]
  have := sh_plc h.v n (n + s) true ⟨hb.1, hb.2.2.2⟩ (by omega)
  rw [show n + s - n = s from by omega] at this
  rw [show (unP p).d = p.d from rfl, this]
theorem long_cut {p : Pk} {m : Int} (h : Cuttable p m) (hno : ¬ longP p ≤ m) : m < 20 + (oD p 0).length + p.d.length - (0 : Nat) ∧ 0 < p.d.length := by
  obtain ⟨r1, r2, r3, r4⟩ := h.room 0
  rw [long_of h.r] at hno
  have ht : topP p = 20 + p.o.length := by unfold topP; rw [if_neg h.v]
  have e : oD p 0 = p.o := by unfold oD; rw [if_pos rfl]
  rw [e] at r2 r3 ⊢
  rw [ht] at hno
  omega
theorem Cuttable.wf {p : Pk} {m : Int} (h : Cuttable p m) (n t : Nat) (hn : n ≤ t) (ht : t ≤ p.d.length) (b : Bool) : Wf (pcR p (oD p n) n t b) := by
  have hl := h.len
  have hb := off_bd h.r h.v
  have hw := h.w
  have hr := h.room n
  have hob : Bytes (oD p n) := by
    unfold oD; split
    · exact hw.o
    · exact (carry_valid hw.o).2.2.1
  exact ⟨hw.v, hw.tos, hw.flow, hw.sv, hw.sl, hw.sb, hw.dv, hw.dl, hw.db, hw.proto, hw.ttl, hw.id0, hw.id1, ⟨by show (-9223372036854775808 : Int) ≤ p.off + n; omega, by show p.off + (n : Int) ≤ 9223372036854775807; omega⟩, hob, by show (oD p n).length ≤ _; omega, (hw.d.drop n).take (t - n), by show ((p.d.drop n).take (t - n)).length ≤ _; rw [List.length_take, List.length_drop]; omega⟩
end R
#print axioms R.long_cut
end Go.Proofs.YtaicckenpplceabGreatDoor

namespace Go.Proofs.YtaicckenpplceabGreatDoor
open Go.ChangeShapes Go.WideShapes Go.ChangeAt Go.RowKit Num
set_option linter.unusedVariables false
namespace R
theorem lastM_len (b : Bool) : ∀ l : List Pk, (lastM b l).length = l.length
  | [] => rfl
  | [q] => rfl
  | q :: r :: s => by show (lastM b (r :: s)).length + 1 = _; rw [lastM_len b (r :: s)]; rfl
theorem recut_len (p : Pk) (m : Int) : (recutP p m).1.length ≤ 70000 := by
  unfold recutP
  split
  · rename_i h
    split
    · simp
    · split
      · simp
      · rename_i h2
        show (recutL p m).length ≤ _
        unfold recutL
        rw [lastM_len, List.length_map]
        have hd := (un_right h.1 (fun e => h2 (.inl e))).all.1
        have := pcs_len (unP p) m (latP (unP p) 0) (unP p).d.length (fstP (unP p) 0) 0
        unfold cutL; omega
  · simp
end R
#print axioms R.recut_len
end Go.Proofs.YtaicckenpplceabGreatDoor
