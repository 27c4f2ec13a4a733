/-
  The document's Is as plain data is the program's.
-/
import Derived.Test.YtaicckenpplceabGreatDoorRecM
namespace Go.Proofs.YtaicckenpplceabGreatDoor
open Go.ChangeShapes Go.WideShapes Go.ChangeAt Go.RowKit Num
set_option linter.unusedVariables false
set_option maxHeartbeats 4000000

namespace R
theorem unr_v4 {p : Pk} (h : rgtP p = true) (hv : p.v = 4) : rightP p = true := by
  unfold rgtP at h; rwa [if_neg (by omega)] at h
/-- The options that a piece at n has. -/
def oD (p : Pk) (n : Nat) : List Int := if n = 0 then p.o else carryP p.o
/-- The frame of a piece at n. -/
def frD (p : Pk) (n : Nat) : Pk := if n = 0 then fstP p 0 else latP p 0
/-- A piece, as the document has it. -/
def pcR (p : Pk) (o : List Int) (n t : Nat) (b : Bool) : Pk := { p with o := o, off := p.off + n, d := (p.d.drop n).take (t - n), more := b }
theorem frD_eq {p : Pk} (hv : p.v ≠ 6) (n : Nat) : frD (unP p) n = { unP p with d := [], o := oD p n } := by
  unfold frD oD latP fstP
  have hv' : (unP p).v ≠ 6 := hv
  by_cases hn : n = 0
  · rw [if_pos hn, if_pos hn, if_neg hv']; rfl
  · rw [if_neg hn, if_neg hn, if_neg hv']; rfl
theorem frD_top {p : Pk} (hv : p.v ≠ 6) (n : Nat) : topP (frD (unP p) n) = 20 + (oD p n).length := by
  rw [frD_eq hv]; unfold topP; exact if_neg (show ¬ p.v = 6 from hv)
theorem frD_frm {p : Pk} (h : Unc (unP p)) (hw : Wf p) (n : Nat) : Frm (unP p) (frD (unP p) n) := by
  unfold frD; split
  · exact h.fst (un_wf hw) (by omega) (by omega)
  · exact h.lat (un_wf hw) (by omega) (by omega)
theorem off_bd {p : Pk} (h : rgtP p = true) (hv : p.v ≠ 6) : 0 ≤ p.off ∧ p.off % 8 = 0 ∧ p.off + p.d.length ≤ 65535 ∧ p.off ≤ 65528 := by
  unfold rgtP at h; rw [if_neg hv, right_iff] at h
  exact ⟨h.1.o0, h.1.o8, h.1.reach, h.1.o1⟩
theorem sh_plc {p : Pk} (hv : p.v ≠ 6) (n t : Nat) (b : Bool) (hb : 0 ≤ p.off ∧ p.off ≤ 65528) (hn : n ≤ 65535) : shP p.off (plcP (frD (unP p) n) n ((p.d.drop n).take (t - n)) b) = pcR p (oD p n) n t b := by
  rw [frD_eq hv]
  have e : wrap64 ((n : Int) + p.off) = p.off + n := by unfold wrap64; omega
  show ({ p with off := wrap64 ((n : Int) + p.off), more := b, d := (p.d.drop n).take (t - n), o := oD p n } : Pk) = _
  rw [e]; rfl
theorem lastM_cons (b : Bool) (x : Pk) {l : List Pk} (h : l ≠ []) : lastM b (x :: l) = x :: lastM b l := by
  cases l with
  | nil => exact absurd rfl h
  | cons y r => rfl
/-- What is still to be cut. -/
def restD (p : Pk) (m : Int) (k n : Nat) : List Pk := lastM p.more ((pcsP (unP p) m (latP (unP p) 0) k (frD (unP p) n) n).map (shP p.off))
theorem rest_start (p : Pk) (m : Int) : restD p m p.d.length 0 = recutL p m := rfl
structure Cuttable (p : Pk) (m : Int) : Prop where
  r : rgtP p = true
  v : p.v ≠ 6
  mt : mtuP m 4 = true
  w : Wf p
theorem Cuttable.room {p : Pk} {m : Int} (h : Cuttable p m) (n : Nat) : roomP (frD (unP p) n) m = (m - 20 - (oD p n).length).toNat ∧ 8 ≤ (m - 20 - (oD p n).length).toNat ∧ (oD p n).length ≤ 40 ∧ m ≤ 65535 := by
  have hu := un_right h.r h.v
  have hv4 := v4 h.r h.v
  have hm' : mtuP m (unP p).v = true := by show mtuP m p.v = true; rw [hv4]; exact h.mt
  obtain ⟨r1, r2, r3, r4, r5, r6, r7⟩ := room_eq hu (un_wf h.w) (frD_frm hu h.w n) hm'
  have ht := frD_top h.v n
  have h60 := (frame_right hu (un_wf h.w) (frD_frm hu h.w n)).2.2.1
  rw [ht] at r2 r4 h60
  refine ⟨by rw [r2]; congr 1; omega, by rw [r2] at r3; omega, by omega, r5⟩
theorem Cuttable.len {p : Pk} {m : Int} (h : Cuttable p m) : p.d.length ≤ 65535 := (un_right h.r h.v).all.1
theorem share4 {left room : Nat} {v : Int} (hv : v ≠ 6) : shareP left room v = if left ≤ room then left else room / 8 * 8 := by unfold shareP; rw [if_neg hv]
theorem Cuttable.last {p : Pk} {m : Int} (h : Cuttable p m) {k n : Nat} (hn : n < p.d.length) (hk : p.d.length - n ≤ k) (hf : ¬ m < 20 + (oD p n).length + p.d.length - n) :
    restD p m k n = [pcR p (oD p n) n p.d.length p.more] := by
  obtain ⟨r1, r2, r3, r4⟩ := h.room n
  have hl := h.len
  have hb := off_bd h.r h.v
  obtain ⟨j, rfl⟩ : ∃ j, k = j + 1 := ⟨k - 1, by omega⟩
  unfold restD
  have e0 : (unP p).d = p.d := rfl
  have es : shareP ((unP p).d.length - n) (roomP (frD (unP p) n) m) (unP p).v = p.d.length - n := by
    rw [share4 (show (unP p).v ≠ 6 from h.v), e0, r1, if_pos (by omega)]
  rw [pcsP, if_pos (show n < (unP p).d.length from hn), es, pcs_nil (by rw [e0]; omega)]
  show [moP p.more (shP p.off (plcP (frD (unP p) n) n ((p.d.drop n).take (p.d.length - n)) _))] = _
  rw [sh_plc h.v n p.d.length _ ⟨hb.1, hb.2.2.2⟩ (by omega)]
  rfl
theorem Cuttable.more {p : Pk} {m : Int} (h : Cuttable p m) {k n : Nat} (hn : n < p.d.length) (hk : p.d.length - n ≤ k) (hf : m < 20 + (oD p n).length + p.d.length - n) :
    ∃ s : Nat, s = (m - 20 - (oD p n).length).toNat / 8 * 8 ∧ 8 ≤ s ∧ n + s < p.d.length ∧ p.d.length - (n + s) ≤ k - 1 ∧ restD p m k n = pcR p (oD p n) n (n + s) true :: restD p m (k - 1) (n + s) := by
  obtain ⟨r1, r2, r3, r4⟩ := h.room n
  have hl := h.len
  have hb := off_bd h.r h.v
  obtain ⟨j, rfl⟩ : ∃ j, k = j + 1 := ⟨k - 1, by omega⟩
  have hlt : n + (m - 20 - (oD p n).length).toNat / 8 * 8 < p.d.length := by omega
  refine ⟨_, rfl, by omega, hlt, by omega, ?_⟩
  have e0 : (unP p).d = p.d := rfl
  have es : shareP ((unP p).d.length - n) (roomP (frD (unP p) n) m) (unP p).v = (m - 20 - (oD p n).length).toNat / 8 * 8 := by
    rw [share4 (show (unP p).v ≠ 6 from h.v), e0, r1, if_neg (by omega)]
  generalize hs : (m - 20 - (oD p n).length).toNat / 8 * 8 = s at *
  have hne : (pcsP (unP p) m (latP (unP p) 0) j (latP (unP p) 0) (n + s)).map (shP p.off) ≠ [] := by
    obtain ⟨i, rfl⟩ : ∃ i, j = i + 1 := ⟨j - 1, by omega⟩
    rw [pcsP, if_pos (show n + s < (unP p).d.length from hlt)]; simp
  have el : frD (unP p) (n + s) = latP (unP p) 0 := by unfold frD; rw [if_neg (by omega)]
  unfold restD
  rw [pcsP, if_pos (show n < (unP p).d.length from hn), es, List.map_cons, lastM_cons _ _ hne, el]
  congr 1
  have ed : decide (s < (unP p).d.length - n) = true := by rw [e0]; simp; omega
  rw [ed]
  have := sh_plc h.v n (n + s) true ⟨hb.1, hb.2.2.2⟩ (by omega)
  rw [show n + s - n = s from by omega] at this
  rw [show (unP p).d = p.d from rfl, this]
theorem long_cut {p : Pk} {m : Int} (h : Cuttable p m) (hno : ¬ longP p ≤ m) : m < 20 + (oD p 0).length + p.d.length - (0 : Nat) ∧ 0 < p.d.length := by
  obtain ⟨r1, r2, r3, r4⟩ := h.room 0
  rw [long_of h.r] at hno
  have ht : topP p = 20 + p.o.length := by unfold topP; rw [if_neg h.v]
  have e : oD p 0 = p.o := by unfold oD; rw [if_pos rfl]
  rw [e] at r2 r3 ⊢
  rw [ht] at hno
  omega
theorem Cuttable.wf {p : Pk} {m : Int} (h : Cuttable p m) (n t : Nat) (hn : n ≤ t) (ht : t ≤ p.d.length) (b : Bool) : Wf (pcR p (oD p n) n t b) := by
  have hl := h.len
  have hb := off_bd h.r h.v
  have hw := h.w
  have hr := h.room n
  have hob : Bytes (oD p n) := by
    unfold oD; split
    · exact hw.o
    · exact (carry_valid hw.o).2.2.1
  exact ⟨hw.v, hw.tos, hw.flow, hw.sv, hw.sl, hw.sb, hw.dv, hw.dl, hw.db, hw.proto, hw.ttl, hw.id0, hw.id1, ⟨by show (-9223372036854775808 : Int) ≤ p.off + n; omega, by show p.off + (n : Int) ≤ 9223372036854775807; omega⟩, hob, by show (oD p n).length ≤ _; omega, (hw.d.drop n).take (t - n), by show ((p.d.drop n).take (t - n)).length ≤ _; rw [List.length_take, List.length_drop]; omega⟩
end R
#print axioms R.long_cut
end Go.Proofs.YtaicckenpplceabGreatDoor

namespace Go.Proofs.YtaicckenpplceabGreatDoor
open Go.ChangeShapes Go.WideShapes Go.ChangeAt Go.RowKit Num
set_option linter.unusedVariables false
set_option maxHeartbeats 4000000

namespace R
/-- The document's loop over a list. -/
def loopD (p : Pk) (m : Int) : List Int → Nat → List Pk → Bool
  | _, n, [] => decide (n = p.d.length)
  | o, n, q :: r => decide (n + q.d.length ≤ p.d.length) && dP q (pcR p o n (n + q.d.length) (!r.isEmpty || p.more)) && rgtP (pcR p o n (n + q.d.length) (!r.isEmpty || p.more)) && decide (longP (pcR p o n (n + q.d.length) (!r.isEmpty || p.more)) ≤ m) && loopD p m (carryP p.o) (n + q.d.length) r
def isD (p : Pk) (m : Int) : List Pk → Bool
  | [] => false
  | [q] => rgtP p && mtuP m 4 && (dP q p && decide (longP p ≤ m))
  | q :: r :: s => rgtP p && mtuP m 4 && (decide (p.v = 4) && !p.df && loopD p m p.o 0 (q :: r :: s))
theorem dP_iff {p q : Pk} : dP p q = true ↔ p = q := by simp only [decide_eq_true_eq]
theorem pcR_right {p : Pk} {o : List Int} {n k : Nat} {b : Bool} (h : rightP p = true) (hv' : validP o = true) (hb : n % 8 = 0) (hk : n + k ≤ p.d.length) (hpos : b = true ∨ 0 < n) (hm : b = true → k % 8 = 0 ∨ (p.more = true ∧ n + k = p.d.length)) :
    rightP (pcR p o n (n + k) b) = true ↔ (0 < k ∧ 20 + o.length + k ≤ 65535) := by
  have h1 := ((right_iff p).1 h).1
  have hl : ((p.d.drop n).take (n + k - n)).length = k := by rw [List.length_take, List.length_drop]; omega
  have o8 := h1.o8; have o0 := h1.o0; have reach := h1.reach; have all := h1.all; have m8 := h1.m8
  rw [right_iff]
  constructor
  · rintro ⟨hf, -⟩
    have f0 := hf.f0; have m0 := hf.m0; have al := hf.all
    have e1 : (pcR p o n (n + k) b).d.length = k := hl
    have e2 : (pcR p o n (n + k) b).off = p.off + n := rfl
    have e3 : (pcR p o n (n + k) b).more = b := rfl
    have e4 : (pcR p o n (n + k) b).o = o := rfl
    rw [e1, e2] at f0
    rw [e1, e3] at m0
    rw [e1, e4] at al
    refine ⟨?_, al⟩
    rcases hpos with hp | hp
    · have := m0 hp; omega
    · have := f0 (by omega); omega
  · rintro ⟨hk0, hal⟩
    refine ⟨⟨h1.v, h1.flow, h1.frag, h1.id, h1.t0, h1.t1, h1.l0, h1.l1, h1.r0, h1.r1, h1.sv, h1.sb, h1.dv, h1.db, ?_, ?_, ?_, ?_, ?_, ?_, ?_, ?_⟩, hv'⟩
    · show 0 ≤ p.off + (n : Int); omega
    · show p.off + (n : Int) ≤ 65528; omega
    · show (p.off + (n : Int)) % 8 = 0; omega
    · intro e
      show ((p.d.drop n).take (n + k - n)).length % 8 = 0
      rw [hl]
      rcases hm e with h | ⟨h, h'⟩
      · exact h
      · have := m8 h; omega
    · intro _; show ((p.d.drop n).take (n + k - n)).length ≠ 0; rw [hl]; omega
    · intro _; show ((p.d.drop n).take (n + k - n)).length ≠ 0; rw [hl]; omega
    · show p.off + (n : Int) + ((p.d.drop n).take (n + k - n)).length ≤ 65535; rw [hl]; omega
    · show 20 + o.length + ((p.d.drop n).take (n + k - n)).length ≤ 65535; rw [hl]; exact hal
theorem pcR_rgt {p : Pk} (hv : p.v = 4) (o : List Int) (n t : Nat) (b : Bool) : rgtP (pcR p o n t b) = rightP (pcR p o n t b) := by
  unfold rgtP; exact if_neg (show ¬ p.v = 6 by omega)
theorem pcR_top {p : Pk} (hv : p.v = 4) (o : List Int) (n t : Nat) (b : Bool) : topP (pcR p o n t b) = 20 + o.length := by
  unfold topP; exact if_neg (show ¬ p.v = 6 by omega)
theorem un_rightP {p : Pk} (h : rightP p = true) (hv : p.v = 4) : rightP (unP p) = true := by
  have := (un_right (show rgtP p = true by unfold rgtP; rw [if_neg (by omega)]; exact h) (by omega)).r
  unfold rgtP at this; rwa [if_neg (show ¬ (unP p).v = 6 by show ¬ p.v = 6; omega)] at this
/-- A piece moved to where its packet begins at 0. -/
theorem move_iff {p q : Pk} (hb : 0 ≤ p.off ∧ p.off ≤ 65528) {o : List Int} {n t : Nat} (hn : n ≤ 65535) (hq : i64ok q.off) (b : Bool) : shM p.off q = pcR (unP p) o n t b ↔ q = pcR p o n t b := by
  constructor
  · intro h
    have ho : wrap64 (q.off - p.off) = (n : Int) := by
      have := congrArg Pk.off h
      simpa [shM, pcR, unP] using this
    have e : q.off = p.off + n := by
      unfold i64ok at hq; unfold wrap64 at ho; omega
    have : q = { shM p.off q with off := q.off } := rfl
    rw [this, h, e]; rfl
  · intro h
    subst h
    show ({ pcR p o n t b with off := wrap64 (p.off + n - p.off) } : Pk) = _
    rw [show wrap64 (p.off + n - p.off) = (n : Int) by unfold wrap64; omega]
    show _ = ({ unP p with o := o, off := (0 : Int) + n, d := (p.d.drop n).take (t - n), more := b } : Pk)
    rw [Int.zero_add]; rfl
theorem plc_pcR (p : Pk) (o : List Int) (n k : Nat) (b : Bool) : plcP { unP p with d := [], o := o } n (((unP p).d.drop n).take k) b = pcR (unP p) o n (n + k) b := by
  show ({ unP p with o := o, off := (n : Int), d := (p.d.drop n).take k, more := b } : Pk) = { unP p with o := o, off := (0 : Int) + n, d := (p.d.drop n).take (n + k - n), more := b }
  rw [Int.zero_add, Nat.add_sub_cancel_left]
structure IsCtx (p : Pk) (m : Int) : Prop where
  r : rightP p = true
  v : p.v = 4
  mt : mtuP m 4 = true
  w : Wf p
theorem lat4 {p : Pk} (hv : p.v = 4) (id : Int) : latP (unP p) id = { unP p with d := [], o := carryP p.o } := by
  unfold latP fstP; rw [if_neg (show ¬ (unP p).v = 6 from by show ¬ p.v = 6; omega)]; rfl
theorem fst4 {p : Pk} (hv : p.v = 4) (id : Int) : fstP (unP p) id = { unP p with d := [], o := p.o } := by
  unfold fstP; rw [if_neg (show ¬ (unP p).v = 6 from by show ¬ p.v = 6; omega)]; rfl
theorem fits_pcR {p : Pk} {m : Int} (hv : p.v = 4) (o : List Int) (n k : Nat) (b : Bool) (hk : n + k ≤ p.d.length) : fitsP (pcR p o n (n + k) b) m = (rightP (pcR p o n (n + k) b) && decide (((20 + o.length + k : Nat) : Int) ≤ m)) := by
  have hl : (pcR p o n (n + k) b).d.length = k := by show ((p.d.drop n).take (n + k - n)).length = k; rw [List.length_take, List.length_drop]; omega
  rw [Bool.eq_iff_iff, fits_iff, pcR_rgt hv, pcR_top hv, hl, Bool.and_eq_true, decide_eq_true_eq]
theorem rl_pcR {p : Pk} {m : Int} (hv : p.v = 4) (o : List Int) (n k : Nat) (b : Bool) (hk : n + k ≤ p.d.length) : (rgtP (pcR p o n (n + k) b) && decide (longP (pcR p o n (n + k) b) ≤ m)) = (rightP (pcR p o n (n + k) b) && decide (((20 + o.length + k : Nat) : Int) ≤ m)) := by
  rw [← fits_pcR hv o n k b hk, Bool.eq_iff_iff, fits_iff, Bool.and_eq_true, decide_eq_true_eq]
  constructor
  · rintro ⟨a, c⟩; rw [long_of a] at c; exact ⟨a, c⟩
  · rintro ⟨a, c⟩; rw [long_of a]; exact ⟨a, c⟩
theorem loop_eq {p : Pk} {m : Int} (h : IsCtx p m) : ∀ (l : List Pk) (o : List Int) (n : Nat) (id : Int), (∀ q ∈ l, i64ok q.off) → l ≠ [] → validP o = true → n % 8 = 0 → n ≤ p.d.length → (l.length = 1 → 0 < n) →
    (decide (lastB l = p.more) && partP (unP p) m (latP (unP p) id) { unP p with d := [], o := o } n (lastM false (l.map (shM p.off)))) = loopD p m o n l
  | [], _, _, _, _, hne, _, _, _, _ => absurd rfl hne
  | [q], o, n, id, hq, _, hv', h8, hn, h1 => by
    have hn0 := h1 rfl
    have h1' := ((right_iff p).1 h.r).1
    have hd : p.d.length ≤ 65535 := by have := h1'.reach; have := h1'.o0; omega
    have hqo := hq q (by simp)
    show (decide (q.more = p.more) && (fitsP (moP false (shM p.off q)) m && decide (n + q.d.length ≤ p.d.length) && dP (moP false (shM p.off q)) (plcP { unP p with d := [], o := o } n (((unP p).d.drop n).take q.d.length) false) && decide (n + q.d.length = p.d.length))) =
      (decide (n + q.d.length ≤ p.d.length) && dP q (pcR p o n (n + q.d.length) p.more) && rgtP (pcR p o n (n + q.d.length) p.more) && decide (longP (pcR p o n (n + q.d.length) p.more) ≤ m) && decide (n + q.d.length = p.d.length))
    by_cases he : n + q.d.length = p.d.length
    · rw [plc_pcR, Bool.and_assoc (decide (n + q.d.length ≤ p.d.length) && dP q _), rl_pcR h.v _ _ _ _ (by omega)]
      by_cases hqe : q = pcR p o n (n + q.d.length) p.more
      · have hmv := (move_iff (p := p) (q := moP false q) ⟨h1'.o0, h1'.o1⟩ (o := o) (n := n) (t := n + q.d.length) (by omega) hqo false)
        have e1 : moP false (shM p.off q) = pcR (unP p) o n (n + q.d.length) false := hmv.2 (by
          have := congrArg (moP false) hqe; exact this)
        have hmo : q.more = p.more := by rw [hqe]; rfl
        have hdl : decide (n + q.d.length ≤ p.d.length) = true := decide_eq_true (by omega)
        rw [e1, fits_pcR (p := unP p) h.v _ _ _ _ (by show n + q.d.length ≤ p.d.length; omega), dP_iff.2 rfl, dP_iff.2 hqe, hdl, decide_eq_true hmo, decide_eq_true he]
        have r1 := pcR_right (p := unP p) (o := o) (n := n) (k := q.d.length) (b := false) (un_rightP h.r h.v) hv' h8 (by show n + q.d.length ≤ p.d.length; omega) (.inr hn0) (by simp)
        have r2 := pcR_right (p := p) (o := o) (n := n) (k := q.d.length) (b := p.more) h.r hv' h8 (by omega) (.inr hn0) (fun e => .inr ⟨e, he⟩)
        have : rightP (pcR (unP p) o n (n + q.d.length) false) = rightP (pcR p o n (n + q.d.length) p.more) := by
          rw [Bool.eq_iff_iff]; exact r1.trans r2.symm
        rw [this]; simp
      · have hdq : dP q (pcR p o n (n + q.d.length) p.more) = false := Bool.eq_false_iff.2 (fun e => hqe (dP_iff.1 e))
        rw [hdq]
        have : (decide (q.more = p.more) && dP (moP false (shM p.off q)) (pcR (unP p) o n (n + q.d.length) false)) = false := by
          rw [Bool.eq_false_iff]; intro e
          rw [Bool.and_eq_true, decide_eq_true_eq, dP_iff] at e
          have hmv := (move_iff (p := p) (q := moP false q) ⟨h1'.o0, h1'.o1⟩ (o := o) (n := n) (t := n + q.d.length) (by omega) hqo false).1 e.2
          apply hqe
          have e2 : q = moP p.more (moP false q) := by show q = { q with more := p.more }; rw [← e.1]
          refine e2.trans ?_
          rw [hmv]; rfl
        rcases Bool.and_eq_false_iff.1 this with e | e <;> rw [e] <;> simp
    · rw [decide_eq_false he]; simp
  | q :: q2 :: r, o, n, id, hq, _, hv', h8, hn, _ => by
    have h1' := ((right_iff p).1 h.r).1
    have hd : p.d.length ≤ 65535 := by have := h1'.reach; have := h1'.o0; omega
    have hqo := hq q (by simp)
    have hcv := carry_valid h.w.o
    obtain ⟨t1, ts, hts⟩ : ∃ t1 ts, lastM false ((q2 :: r).map (shM p.off)) = t1 :: ts := by
      cases r with
      | nil => exact ⟨_, _, rfl⟩
      | cons a b => exact ⟨_, _, rfl⟩
    have hT : lastM false ((q :: q2 :: r).map (shM p.off)) = shM p.off q :: lastM false ((q2 :: r).map (shM p.off)) := rfl
    have hlb : lastB (q :: q2 :: r) = lastB (q2 :: r) := rfl
    rw [hT, hlb, partP, hts]
    show (decide (lastB (q2 :: r) = p.more) && (fitsP (shM p.off q) m && decide (n + q.d.length ≤ p.d.length) && dP (shM p.off q) (plcP { unP p with d := [], o := o } n (((unP p).d.drop n).take q.d.length) true) && partP (unP p) m (latP (unP p) id) (latP (unP p) id) (n + q.d.length) (t1 :: ts))) =
      (decide (n + q.d.length ≤ p.d.length) && dP q (pcR p o n (n + q.d.length) true) && rgtP (pcR p o n (n + q.d.length) true) && decide (longP (pcR p o n (n + q.d.length) true) ≤ m) && loopD p m (carryP p.o) (n + q.d.length) (q2 :: r))
    rw [plc_pcR]
    by_cases hk : n + q.d.length ≤ p.d.length
    · rw [Bool.and_assoc (decide (n + q.d.length ≤ p.d.length) && dP q _), rl_pcR h.v _ _ _ _ hk]
      by_cases hqe : q = pcR p o n (n + q.d.length) true
      · have e1 : shM p.off q = pcR (unP p) o n (n + q.d.length) true := (move_iff ⟨h1'.o0, h1'.o1⟩ (by omega) hqo true).2 hqe
        rw [e1, fits_pcR (p := unP p) h.v _ _ _ _ hk, dP_iff.2 rfl, dP_iff.2 hqe, decide_eq_true hk]
        by_cases h8k : q.d.length % 8 = 0
        · have r1 := pcR_right (p := unP p) (o := o) (n := n) (k := q.d.length) (b := true) (un_rightP h.r h.v) hv' h8 hk (.inl rfl) (fun _ => .inl h8k)
          have r2 := pcR_right (p := p) (o := o) (n := n) (k := q.d.length) (b := true) h.r hv' h8 hk (.inl rfl) (fun _ => .inl h8k)
          have hrr : rightP (pcR (unP p) o n (n + q.d.length) true) = rightP (pcR p o n (n + q.d.length) true) := by
            rw [Bool.eq_iff_iff]; exact r1.trans r2.symm
          rw [hrr]
          by_cases hr : rightP (pcR p o n (n + q.d.length) true) = true
          · have hpos := (r2.1 hr).1
            have ih := loop_eq h (q2 :: r) (carryP p.o) (n + q.d.length) id (fun x hx => hq x (by simp at hx ⊢; exact .inr hx)) (by simp) hcv.1 (by omega) hk (fun _ => by omega)
            rw [hts, ← lat4 h.v id] at ih
            rw [← ih, hr]
            cases decide (lastB (q2 :: r) = p.more) <;> simp
          · rw [Bool.eq_false_iff.2 hr]; simp
        · have n1 : rightP (pcR p o n (n + q.d.length) true) = false := by
            rw [Bool.eq_false_iff]; intro e
            have := ((right_iff _).1 e).1.m8 rfl
            apply h8k
            have hl : ((p.d.drop n).take (n + q.d.length - n)).length = q.d.length := by rw [List.length_take, List.length_drop]; omega
            rw [← hl]; exact this
          have n2 : rightP (pcR (unP p) o n (n + q.d.length) true) = false := by
            rw [Bool.eq_false_iff]; intro e
            have := ((right_iff _).1 e).1.m8 rfl
            apply h8k
            have hl : ((p.d.drop n).take (n + q.d.length - n)).length = q.d.length := by rw [List.length_take, List.length_drop]; omega
            rw [← hl]; exact this
          rw [n1, n2]; simp
      · have hdq : dP q (pcR p o n (n + q.d.length) true) = false := Bool.eq_false_iff.2 (fun e => hqe (dP_iff.1 e))
        have hdq2 : dP (shM p.off q) (pcR (unP p) o n (n + q.d.length) true) = false := Bool.eq_false_iff.2 (fun e => hqe ((move_iff ⟨h1'.o0, h1'.o1⟩ (by omega) hqo true).1 (dP_iff.1 e)))
        rw [hdq, hdq2]; simp
    · rw [decide_eq_false hk]; simp
theorem isD_eq {p : Pk} {m : Int} (hw : Wf p) (l : List Pk) (hl : ∀ q ∈ l, i64ok q.off) : isR p m l = isD p m l := by
  match l, hl with
  | [], _ => rfl
  | [q], _ =>
    show (rgtP p && mtuP m 4 && (decide (longP p ≤ m) && dP q p)) = (rgtP p && mtuP m 4 && (dP q p && decide (longP p ≤ m)))
    rw [Bool.and_comm (decide (longP p ≤ m))]
  | q :: r :: s, hl =>
    show (rgtP p && mtuP m 4 && (decide (p.v = 4) && partR p m (q :: r :: s))) = (rgtP p && mtuP m 4 && (decide (p.v = 4) && !p.df && loopD p m p.o 0 (q :: r :: s)))
    by_cases hr : rgtP p = true
    · by_cases hm : mtuP m 4 = true
      · by_cases hv : p.v = 4
        · have hctx : IsCtx p m := ⟨unr_v4 hr hv, hv, hm, hw⟩
          have hu := un_right hr (by omega : p.v ≠ 6)
          have hm' : mtuP m (unP p).v = true := by show mtuP m p.v = true; rw [hv]; exact hm
          obtain ⟨t1, t2, ts, hts⟩ : ∃ t1 t2 ts, lastM false ((q :: r :: s).map (shM p.off)) = t1 :: t2 :: ts := by
            cases s with
            | nil => exact ⟨_, _, _, rfl⟩
            | cons a b => 
              cases b with
              | nil => exact ⟨_, _, _, rfl⟩
              | cons c d => exact ⟨_, _, _, rfl⟩
          have hle := loop_eq hctx (q :: r :: s) p.o 0 t1.id hl (by simp) ((right_iff p).1 hctx.r).2 rfl (Nat.zero_le _) (by simp)
          rw [← fst4 hv t1.id] at hle
          rw [hr, hm, decide_eq_true hv]
          unfold partR isP
          rw [(uncut_iff _).2 hu, hm', ← hle, hts]
          show (true && true && (true && (decide _ && (true && true && (!p.df && _))))) = _
          cases p.df <;> simp
        · rw [decide_eq_false hv]; simp
      · rw [Bool.eq_false_iff.2 hm]; simp
    · rw [Bool.eq_false_iff.2 hr]; simp
end R
#print axioms R.isD_eq
end Go.Proofs.YtaicckenpplceabGreatDoor
