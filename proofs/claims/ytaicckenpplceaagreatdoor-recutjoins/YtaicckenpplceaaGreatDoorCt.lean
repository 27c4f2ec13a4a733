/-
  Cuts of packets as plain data. Nothing of the program.
-/
import Derived.Test.YtaicckenpplceaaGreatDoorPk6
namespace Go.Proofs.YtaicckenpplceaaGreatDoor
open Num
set_option linter.unusedVariables false

def hdP (p : Pk) : Int := if p.v = 6 then S6.headP p else (if rightP p = true then 20 + p.o.length else 0)
def longP (p : Pk) : Int := if hdP p = 0 then 0 else hdP p + p.d.length
def uncutP (p : Pk) : Bool := decide (0 < longP p) && decide (p.off = 0) && !p.more && !p.frag
def mtuP (m v : Int) : Bool := decide ((if v = 6 then 1280 else 68) ≤ m) && decide (m ≤ 65535)
def fitsP (p : Pk) (m : Int) : Bool := decide (0 < longP p) && decide (longP p ≤ m)
def fstP (p : Pk) (id : Int) : Pk := if p.v = 6 then { p with d := [], frag := true, id := id } else { p with d := [] }
def latP (p : Pk) (id : Int) : Pk := { fstP p id with o := carryP p.o }
def plcP (f : Pk) (n : Nat) (l : List Int) (m : Bool) : Pk := { f with off := n, d := l, more := m }
def shareP (left room : Nat) (v : Int) : Nat := if left ≤ (if v = 6 then room / 8 * 8 else room) then left else room / 8 * 8
def roomP (f : Pk) (m : Int) : Nat := (m - longP f).toNat
def pcsP (p : Pk) (m : Int) (lat : Pk) : Nat → Pk → Nat → List Pk
  | 0, _, _ => []
  | k + 1, f, n => if n < p.d.length then
      plcP f n ((p.d.drop n).take (shareP (p.d.length - n) (roomP f m) p.v)) (decide (shareP (p.d.length - n) (roomP f m) p.v < p.d.length - n)) :: pcsP p m lat k lat (n + shareP (p.d.length - n) (roomP f m) p.v)
    else []
def cutL (p : Pk) (m id : Int) : List Pk := pcsP p m (latP p id) p.d.length (fstP p id) 0
def cutP (p : Pk) (m id : Int) : List Pk × Int :=
  if (uncutP p && mtuP m p.v) = true then (if fitsP p m = true then ([p], 0) else if p.df = true then ([], 100) else (cutL p m id, 0)) else ([], 1)
def partP (p : Pk) (m : Int) (lat : Pk) : Pk → Nat → List Pk → Bool
  | _, n, [] => decide (n = p.d.length)
  | f, n, q :: r => fitsP q m && decide (n + q.d.length ≤ p.d.length) && dP q (plcP f n ((p.d.drop n).take q.d.length) (!r.isEmpty)) && partP p m lat lat (n + q.d.length) r
def isP (p : Pk) (m : Int) (l : List Pk) : Bool :=
  uncutP p && mtuP m p.v && (match l with | [] => false | [q] => fitsP p m && dP q p | q :: r => !p.df && partP p m (latP p q.id) (fstP p q.id) 0 (q :: r))

/-! What is right, of either version. -/
def rgtP (p : Pk) : Bool := if p.v = 6 then S6.rightP p else rightP p
def topP (p : Pk) : Nat := if p.v = 6 then S6.hofP p else 20 + p.o.length
theorem hd_eq (p : Pk) : hdP p = if rgtP p = true then (topP p : Int) else 0 := by
  unfold hdP rgtP topP S6.headP
  by_cases h : p.v = 6
  · simp only [h, if_true]
  · simp only [h, if_false]
    split
    · push_cast; rfl
    · rfl
theorem top_pos (p : Pk) : 20 ≤ topP p := by
  unfold topP S6.hofP
  split
  · split <;> omega
  · omega
theorem long_eq (p : Pk) : longP p = if rgtP p = true then ((topP p + p.d.length : Nat) : Int) else 0 := by
  unfold longP
  rw [hd_eq]
  have := top_pos p
  by_cases h : rgtP p = true
  · simp only [h, if_true]
    rw [if_neg (by omega)]; push_cast; rfl
  · rw [if_neg h, if_pos rfl, if_neg h]
theorem long_pos (p : Pk) : 0 < longP p ↔ rgtP p = true := by
  rw [long_eq]
  have := top_pos p
  by_cases h : rgtP p = true
  · simp only [h, if_true, iff_true]; omega
  · rw [if_neg h]; simp [h]
theorem long_of {p : Pk} (h : rgtP p = true) : longP p = ((topP p + p.d.length : Nat) : Int) := by rw [long_eq, if_pos h]
structure Unc (p : Pk) : Prop where
  r : rgtP p = true
  off : p.off = 0
  more : p.more = false
  frag : p.frag = false
theorem uncut_iff (p : Pk) : uncutP p = true ↔ Unc p := by
  unfold uncutP
  simp only [Bool.and_eq_true, decide_eq_true_eq, Bool.not_eq_true', long_pos]
  exact ⟨fun ⟨⟨⟨a, b⟩, c⟩, d⟩ => ⟨a, b, c, d⟩, fun h => ⟨⟨⟨h.r, h.off⟩, h.more⟩, h.frag⟩⟩
theorem fits_iff (p : Pk) (m : Int) : fitsP p m = true ↔ rgtP p = true ∧ ((topP p + p.d.length : Nat) : Int) ≤ m := by
  unfold fitsP
  simp only [Bool.and_eq_true, decide_eq_true_eq, long_pos]
  constructor
  · rintro ⟨a, b⟩; rw [long_of a] at b; exact ⟨a, b⟩
  · rintro ⟨a, b⟩; rw [long_of a]; exact ⟨a, b⟩
theorem mtu_iff (m v : Int) : mtuP m v = true ↔ (if v = 6 then 1280 else 68) ≤ m ∧ m ≤ 65535 := by
  unfold mtuP; simp only [Bool.and_eq_true, decide_eq_true_eq]
theorem share_le (left room : Nat) (v : Int) : shareP left room v ≤ left := by unfold shareP; split <;> (split at * <;> omega)
theorem share_room (left room : Nat) (v : Int) : shareP left room v ≤ room := by unfold shareP; split <;> (split at * <;> omega)
theorem share_pos (left room : Nat) (v : Int) (h : 0 < left) (hr : 8 ≤ room) : 0 < shareP left room v := by unfold shareP; split <;> (split at * <;> omega)
theorem share_8 (left room : Nat) (v : Int) : shareP left room v = left ∨ shareP left room v % 8 = 0 := by unfold shareP; split <;> (split at * <;> omega)

theorem fst_v (p : Pk) (id : Int) : (fstP p id).v = p.v := by unfold fstP; split <;> rfl
theorem lat_v (p : Pk) (id : Int) : (latP p id).v = p.v := fst_v p id
theorem fst_d (p : Pk) (id : Int) : (fstP p id).d = [] := by unfold fstP; split <;> rfl
theorem lat_d (p : Pk) (id : Int) : (latP p id).d = [] := fst_d p id
theorem fst_o (p : Pk) (id : Int) : (fstP p id).o = p.o := by unfold fstP; split <;> rfl
theorem fst_top {p : Pk} (id : Int) : topP (fstP p id) = if p.v = 6 then 48 else 20 + p.o.length := by
  unfold topP
  rw [fst_v, fst_o]
  by_cases h : p.v = 6
  · rw [if_pos h, if_pos h]; unfold fstP S6.hofP; rw [if_pos h]; rfl
  · rw [if_neg h, if_neg h]
theorem lat_top {p : Pk} (id : Int) : topP (latP p id) = if p.v = 6 then 48 else 20 + (carryP p.o).length := by
  unfold topP
  rw [lat_v]
  by_cases h : p.v = 6
  · rw [if_pos h, if_pos h]; unfold latP fstP S6.hofP; rw [if_pos h]; rfl
  · rw [if_neg h, if_neg h]; rfl
theorem plc_top (f : Pk) (n : Nat) (l : List Int) (m : Bool) : topP (plcP f n l m) = topP f := rfl
theorem carry_nil {b : List Int} (hb : b = []) : carryP b = [] := by
  subst hb
  have := (carry_valid (b := []) Bytes.nil).2.1
  exact List.eq_nil_of_length_eq_zero (by simpa using this)
/-- A piece is right. -/
structure Frm (p f : Pk) : Prop where
  h4 : p.v ≠ 6 → ∃ o, f = { p with d := [], o := o } ∧ validP o = true ∧ o.length ≤ p.o.length ∧ Bytes o
  h6 : p.v = 6 → ∃ id, f = { p with d := [], frag := true, id := id } ∧ 0 ≤ id ∧ id ≤ 4294967295
theorem Unc.fst {p : Pk} (h : Unc p) (hw : Wf p) {id : Int} (h0 : 0 ≤ id) (h1 : id ≤ 4294967295) : Frm p (fstP p id) := by
  refine ⟨fun hv => ⟨p.o, ?_, ?_, Nat.le_refl _, hw.o⟩, fun hv => ⟨id, ?_, h0, h1⟩⟩
  · unfold fstP; rw [if_neg hv]
  · have := h.r; unfold rgtP at this; rw [if_neg hv, right_iff] at this; exact this.2
  · unfold fstP; rw [if_pos hv]
theorem Unc.lat {p : Pk} (h : Unc p) (hw : Wf p) {id : Int} (h0 : 0 ≤ id) (h1 : id ≤ 4294967295) : Frm p (latP p id) := by
  have hc := carry_valid hw.o
  refine ⟨fun hv => ⟨carryP p.o, ?_, hc.1, hc.2.1, hc.2.2.1⟩, fun hv => ⟨id, ?_, h0, h1⟩⟩
  · unfold latP fstP; rw [if_neg hv]
  · have := h.r; unfold rgtP at this; rw [if_pos hv, S6.right_iff] at this
    unfold latP fstP; rw [if_pos hv, carry_nil this.o, ← this.o]
theorem Frm.wf {p f : Pk} (h : Frm p f) (hw : Wf p) (n : Nat) (hn : n ≤ 140737488355328) (l : List Int) (hl : Bytes l) (hk : l.length ≤ 140737488355328) (m : Bool) : Wf (plcP f n l m) := by
  by_cases hv : p.v = 6
  · obtain ⟨id, rfl, h0, h1⟩ := h.h6 hv
    exact ⟨hw.v, hw.tos, hw.flow, hw.sv, hw.sl, hw.sb, hw.dv, hw.dl, hw.db, hw.proto, hw.ttl, h0, h1, ⟨by show (-9223372036854775808 : Int) ≤ (n : Int); omega, by show (n : Int) ≤ 9223372036854775807; omega⟩, hw.o, hw.ol, hl, hk⟩
  · obtain ⟨o, rfl, h0, h1, h2⟩ := h.h4 hv
    exact ⟨hw.v, hw.tos, hw.flow, hw.sv, hw.sl, hw.sb, hw.dv, hw.dl, hw.db, hw.proto, hw.ttl, hw.id0, hw.id1, ⟨by show (-9223372036854775808 : Int) ≤ (n : Int); omega, by show (n : Int) ≤ 9223372036854775807; omega⟩, h2, Nat.le_trans h1 hw.ol, hl, hk⟩
theorem Unc.all {p : Pk} (h : Unc p) : p.d.length ≤ 65535 ∧ (p.v ≠ 6 → p.o.length ≤ 40 ∧ 20 + p.o.length + p.d.length ≤ 65535) := by
  have := h.r; unfold rgtP at this
  by_cases hv : p.v = 6
  · rw [if_pos hv, S6.right_iff] at this
    have := this.reach; have := h.off
    exact ⟨by omega, fun h => absurd hv h⟩
  · rw [if_neg hv, right_iff] at this
    have h1 := this.1.all; have h2 := valid_len this.2
    exact ⟨by omega, fun _ => ⟨h2.1, h1⟩⟩
theorem piece_right {p f : Pk} (h : Unc p) (hw : Wf p) (hf : Frm p f) (n : Nat) (l : List Int) (m : Bool) (h0 : 0 < l.length) (h8 : n % 8 = 0) (hn : n + l.length ≤ p.d.length) (hm : m = true → l.length % 8 = 0) (hs : p.v = 6 → l.length ≤ 65527) : rgtP (plcP f n l m) = true := by
  have ha := h.all
  have hr := h.r
  unfold rgtP at hr ⊢
  by_cases hv : p.v = 6
  · obtain ⟨id, rfl, -⟩ := hf.h6 hv
    have hs := hs hv
    rw [if_pos hv, S6.right_iff] at hr
    refine (if_pos hv).trans ?_
    rw [S6.right_iff]
    exact ⟨hr.v, hr.df, hr.o, hr.f0, hr.f1, hr.t0, hr.t1, hr.l0, hr.l1, hr.r0, hr.r1, hr.r44, hr.sv, hr.dv, Int.natCast_nonneg n, by show (n : Int) ≤ 65528; omega, by show (n : Int) % 8 = 0; omega, hm, fun _ => by show l.length ≠ 0; omega, by show (n : Int) + l.length ≤ 65535; omega, fun e => by simp [plcP] at e, by show (if true = true then 48 else 40) - 40 + l.length ≤ 65535; simp; omega⟩
  · obtain ⟨o, rfl, hv', ho, -⟩ := hf.h4 hv
    rw [if_neg hv, right_iff] at hr
    refine (if_neg hv).trans ?_
    rw [right_iff]
    have hr1 := hr.1
    have ha2 := ha.2 hv
    exact ⟨⟨hr1.v, hr1.flow, hr1.frag, hr1.id, hr1.t0, hr1.t1, hr1.l0, hr1.l1, hr1.r0, hr1.r1, hr1.sv, hr1.sb, hr1.dv, hr1.db, Int.natCast_nonneg n, by show (n : Int) ≤ 65528; omega, by show (n : Int) % 8 = 0; omega, hm, fun _ => by show l.length ≠ 0; omega, fun _ => by show l.length ≠ 0; omega, by show (n : Int) + l.length ≤ 65535; omega, by show 20 + o.length + l.length ≤ 65535; omega⟩, hv'⟩
/-- The frame by itself is right, and leaves room. -/
theorem frame_right {p f : Pk} (h : Unc p) (hw : Wf p) (hf : Frm p f) : rgtP f = true ∧ f.d = [] ∧ topP f ≤ 60 ∧ (p.v = 6 → topP f = 48) := by
  have ha := h.all
  have hr := h.r
  unfold rgtP at hr ⊢
  by_cases hv : p.v = 6
  · obtain ⟨id, rfl, -⟩ := hf.h6 hv
    rw [if_pos hv, S6.right_iff] at hr
    have e : topP { p with d := [], frag := true, id := id } = 48 := by unfold topP; rw [if_pos (show p.v = 6 from hv)]; rfl
    refine ⟨(if_pos hv).trans ((S6.right_iff _).2 ?_), rfl, by omega, fun _ => e⟩
    refine ⟨hr.v, hr.df, hr.o, hr.f0, hr.f1, hr.t0, hr.t1, hr.l0, hr.l1, hr.r0, hr.r1, hr.r44, hr.sv, hr.dv, hr.o0, hr.o1, hr.o8, fun e => ?_, fun e => ?_, ?_, fun e => by simp at e, by show (if true = true then 48 else 40) - 40 + 0 ≤ 65535; simp⟩
    · rw [show ({ p with d := [], frag := true, id := id } : Pk).more = p.more from rfl, h.more] at e; simp at e
    · rcases e with e | e
      · rw [show ({ p with d := [], frag := true, id := id } : Pk).more = p.more from rfl, h.more] at e; simp at e
      · rw [show ({ p with d := [], frag := true, id := id } : Pk).off = p.off from rfl, h.off] at e; simp at e
    · show p.off + ((0 : Nat) : Int) ≤ 65535; rw [h.off]; simp
  · obtain ⟨o, rfl, hv', ho, -⟩ := hf.h4 hv
    rw [if_neg hv, right_iff] at hr
    have hr1 := hr.1
    have ha2 := ha.2 hv
    have e : topP { p with d := [], o := o } = 20 + o.length := by unfold topP; rw [if_neg (show ¬ p.v = 6 from hv)]
    refine ⟨(if_neg hv).trans ((right_iff _).2 ⟨?_, hv'⟩), rfl, by omega, fun e => absurd e hv⟩
    refine ⟨hr1.v, hr1.flow, hr1.frag, hr1.id, hr1.t0, hr1.t1, hr1.l0, hr1.l1, hr1.r0, hr1.r1, hr1.sv, hr1.sb, hr1.dv, hr1.db, hr1.o0, hr1.o1, hr1.o8, fun e => rfl, fun e => ?_, fun e => ?_, ?_, by show 20 + o.length + 0 ≤ 65535; omega⟩
    · rw [show ({ p with d := [], o := o } : Pk).more = p.more from rfl, h.more] at e; simp at e
    · rw [show ({ p with d := [], o := o } : Pk).off = p.off from rfl, h.off] at e; simp at e
    · show p.off + ((0 : Nat) : Int) ≤ 65535; rw [h.off]; simp
theorem room_eq {p f : Pk} (h : Unc p) (hw : Wf p) (hf : Frm p f) {m : Int} (hm : mtuP m p.v = true) : longP f = topP f ∧ roomP f m = (m - topP f).toNat ∧ 8 ≤ roomP f m ∧ (roomP f m : Int) = m - topP f ∧ m ≤ 65535 ∧ (p.v = 6 → roomP f m ≤ 65487) ∧ roomP f m ≤ 65515 := by
  obtain ⟨h1, h2, h3, h4⟩ := frame_right h hw hf
  have h5 := (mtu_iff _ _).1 hm
  have e : longP f = topP f := by rw [long_of h1, h2]; simp
  have ht := top_pos f
  have e2 : roomP f m = (m - topP f).toNat := by unfold roomP; rw [e]
  by_cases hv : p.v = 6
  · rw [if_pos hv] at h5
    have := h4 hv
    exact ⟨e, e2, by omega, by omega, by omega, fun _ => by omega, by omega⟩
  · rw [if_neg hv] at h5
    exact ⟨e, e2, by omega, by omega, by omega, fun h => absurd h hv, by omega⟩
#print axioms room_eq
end Go.Proofs.YtaicckenpplceaaGreatDoor
